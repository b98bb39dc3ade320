import PyProof.Rows.All
import Wide.All
import OpenK.AllK
import HandS.TupSets
import KE.KeyNested
import KE.KDictKeyed
import HandS.Strs
import KE.SortData
import HandS.Iter
import HandS.Conv
import KE.GoesMore
import HandS.Style
import HandS.List
import HandS.TupAny
import HandS.DictComp
import HandS.DictTup
import PyProof.DictFindH
import Wide.FinOn
import HandS.ForMost
import HandS.Evl
import HandS.Deep
import HandS.IsInst
import HandS.Flow
import HandS.SetFor
import HandS.TupMul
import KE.DataCmp
import HandS.Zip
import KE.GoesSet
import HandS.MapObj
import HandS.RepeatKit
import KE.KDictDisplayH
import PySem.Challenge.RW_keptarcs_k30_whole_classes_by_plain_sear
set_option Elab.async false
set_option linter.all false
set_option maxRecDepth 100000
/-! sets of keys of any depth: the table -/
namespace Ks
open PySem PySem.Spec PyProof.Rows L2
/-- a mask of one of the sizes that a table takes -/
def Mk (m : Nat) : Prop := ∃ k, 3 ≤ k ∧ k ≤ 13 ∧ m + 1 = 2 ^ k
/-- n times: five times and one more -/
def fv : Nat → Nat → Nat
  | 0, x => x
  | n + 1, x => 5 * fv n x + 1
theorem fv_add (x a : Nat) : ∀ b, fv (a + b) x = fv b (fv a x)
  | 0 => rfl
  | b + 1 => by
    show 5 * fv (a + b) x + 1 = 5 * fv b (fv a x) + 1
    rw [fv_add x a b]
theorem fv_lin (x : Nat) : ∀ n, fv n x = 5 ^ n * x + fv n 0
  | 0 => by simp [fv]
  | n + 1 => by
    show 5 * fv n x + 1 = 5 ^ (n + 1) * x + (5 * fv n 0 + 1)
    rw [fv_lin x n, Nat.pow_succ, Nat.mul_add, Nat.mul_comm (5 ^ n) 5, Nat.mul_assoc]
    omega
theorem five_pow : ∀ k, ∃ u, 5 ^ 2 ^ k = 1 + 4 * (2 ^ k * u)
  | 0 => ⟨1, rfl⟩
  | k + 1 => by
    obtain ⟨u, e⟩ := five_pow k
    refine ⟨u + 2 * (2 ^ k * (u * u)), ?_⟩
    have h1 : 5 ^ 2 ^ (k + 1) = 5 ^ 2 ^ k * 5 ^ 2 ^ k := by rw [Nat.pow_succ, Nat.mul_comm, Nat.two_mul, Nat.pow_add]
    have h2 : 2 ^ (k + 1) = 2 * 2 ^ k := by rw [Nat.pow_succ, Nat.mul_comm]
    rw [h1, e, h2]
    generalize 2 ^ k = q
    have h3 : q * u * (q * u) = q * (q * (u * u)) := by rw [Nat.mul_mul_mul_comm, Nat.mul_assoc]
    have h4 : 2 * q * (u + 2 * (q * (u * u))) = 2 * (q * u) + 4 * (q * (q * (u * u))) := by
      rw [Nat.mul_assoc, Nat.mul_add, ← Nat.mul_assoc q 2, Nat.mul_comm q 2, Nat.mul_assoc 2 q]
      omega
    have h5 : (1 + 4 * (q * u)) * (1 + 4 * (q * u)) = 1 + 8 * (q * u) + 16 * (q * u * (q * u)) := by
      generalize q * u = t
      have : 4 * t * (4 * t) = 16 * (t * t) := by rw [Nat.mul_mul_mul_comm]
      rw [Nat.add_mul, Nat.mul_add (4 * t), this]
      omega
    rw [h5, h3, h4]
    omega
theorem fv_pow : ∀ k, ∃ v, fv (2 ^ k) 0 = 2 ^ k * (2 * v + 1)
  | 0 => ⟨0, rfl⟩
  | k + 1 => by
    obtain ⟨v, e⟩ := fv_pow k
    obtain ⟨u, e2⟩ := five_pow k
    have h2 : 2 ^ (k + 1) = 2 ^ k + 2 ^ k := by rw [Nat.pow_succ, Nat.mul_comm, Nat.two_mul]
    have h1 : fv (2 ^ (k + 1)) 0 = (2 + 4 * (2 ^ k * u)) * fv (2 ^ k) 0 := by
      rw [h2, fv_add, fv_lin, e2]
      generalize fv (2 ^ k) 0 = c
      rw [Nat.add_mul, Nat.add_mul, Nat.one_mul]
      omega
    refine ⟨v + 2 ^ k * u * (2 * v + 1), ?_⟩
    rw [h1, e, h2]
    generalize 2 ^ k * u = t
    generalize 2 ^ k = q
    generalize hw : 2 * v + 1 = z
    have h3 : 2 * (v + t * z) + 1 = z + 2 * (t * z) := by omega
    rw [h3]
    have h4 : (2 + 4 * t) * (q * z) = 2 * (q * z) + 4 * (t * (q * z)) := by rw [Nat.add_mul, Nat.mul_assoc]
    have h5 : (q + q) * (z + 2 * (t * z)) = 2 * (q * z) + 4 * (q * (t * z)) := by
      rw [Nat.mul_add, ← Nat.two_mul, Nat.mul_assoc, Nat.mul_assoc, ← Nat.mul_assoc q 2, Nat.mul_comm q 2, Nat.mul_assoc 2 q]
      omega
    rw [h4, h5, Nat.mul_left_comm t q z]
/-- after a round the same, and one bit more is turned -/
theorem fv_round (k x : Nat) : fv (2 ^ k) x % 2 ^ (k + 1) = (x + 2 ^ k) % 2 ^ (k + 1) := by
  obtain ⟨v, e⟩ := fv_pow k
  obtain ⟨u, e2⟩ := five_pow k
  have h2 : 2 ^ (k + 1) = 2 * 2 ^ k := by rw [Nat.pow_succ, Nat.mul_comm]
  rw [fv_lin, e2, e, h2]
  generalize 2 ^ k = q
  have h3 : (1 + 4 * (q * u)) * x + q * (2 * v + 1) = x + q + 2 * q * (2 * (u * x) + v) := by
    have a1 : 4 * (q * u) * x = 4 * (q * (u * x)) := by rw [Nat.mul_assoc, Nat.mul_assoc]
    have a2 : q * (2 * v + 1) = 2 * (q * v) + q := by rw [Nat.mul_add, Nat.mul_one, ← Nat.mul_assoc, Nat.mul_comm q 2, Nat.mul_assoc]
    have a3 : 2 * q * (2 * (u * x) + v) = 4 * (q * (u * x)) + 2 * (q * v) := by
      rw [Nat.mul_add, Nat.mul_assoc, Nat.mul_assoc, ← Nat.mul_assoc q 2, Nat.mul_comm q 2, Nat.mul_assoc 2 q]
      omega
    rw [Nat.add_mul, Nat.one_mul, a1, a2, a3]
    omega
  rw [h3, Nat.add_mul_mod_self_left]
/-- each number is met within a round -/
theorem fv_cover : ∀ (k x j : Nat), j < 2 ^ k → ∃ n, n < 2 ^ k ∧ fv n x % 2 ^ k = j
  | 0, x, j, h => ⟨0, by decide, by
    have : j = 0 := by simpa using h
    rw [this]
    exact Nat.mod_one _⟩
  | k + 1, x, j, h => by
    have h2 : 2 ^ (k + 1) = 2 * 2 ^ k := by rw [Nat.pow_succ, Nat.mul_comm]
    have hp : 0 < 2 ^ k := Nat.two_pow_pos k
    obtain ⟨n, hn, e⟩ := fv_cover k x (j % 2 ^ k) (Nat.mod_lt _ hp)
    have r := fv_round k (fv n x)
    rw [← fv_add] at r
    rw [h2] at h r ⊢
    generalize hy : fv n x = y at e r
    have s : ∀ z, z % (2 * 2 ^ k) = z % 2 ^ k ∨ z % (2 * 2 ^ k) = z % 2 ^ k + 2 ^ k := fun z => by
      have a : z % (2 * 2 ^ k) = z % 2 ^ k + 2 ^ k * (z / 2 ^ k % 2) := by rw [Nat.mul_comm 2, Nat.mod_mul]
      rcases Nat.mod_two_eq_zero_or_one (z / 2 ^ k) with b | b
      · left
        rw [a, b]
        omega
      · right
        rw [a, b]
        omega
    by_cases c : y % (2 * 2 ^ k) = j
    · exact ⟨n, by omega, by rw [hy]; exact c⟩
    · refine ⟨n + 2 ^ k, by omega, ?_⟩
      rw [r]
      have hj := s j
      rw [Nat.mod_eq_of_lt h] at hj
      have hm := s y
      have hl : y % 2 ^ k < 2 ^ k := Nat.mod_lt _ hp
      rw [Nat.add_mod, Nat.mod_eq_of_lt (show 2 ^ k < 2 * 2 ^ k by omega)]
      rcases hm with m1 | m1 <;> rcases hj with j1 | j1
      · omega
      · rw [Nat.mod_eq_of_lt (by omega)]
        omega
      · have : y % (2 * 2 ^ k) + 2 ^ k = y % 2 ^ k + 2 * 2 ^ k := by omega
        rw [this, Nat.add_mod_right, Nat.mod_eq_of_lt (by omega)]
        omega
      · omega
theorem lcg_fv (m i : Nat) (hi : i ≤ m) : ∀ k, lcgI m i k = fv k i % (m + 1)
  | 0 => (Nat.mod_eq_of_lt (Nat.lt_succ_of_le hi)).symm
  | k + 1 => by
    show (lcgI m i k * 5 + 1) % (m + 1) = (5 * fv k i + 1) % (m + 1)
    rw [lcg_fv m i hi k, Nat.add_mod, Nat.mod_mul_mod, ← Nat.add_mod, Nat.mul_comm]
theorem Mk.all {m i j : Nat} (hm : Mk m) (hi : i ≤ m) (hj : j ≤ m) : ∃ k, k ≤ m ∧ lcgI m i k = j := by
  obtain ⟨k, _, _, e⟩ := hm
  obtain ⟨n, h1, h2⟩ := fv_cover k i j (by omega)
  exact ⟨n, by omega, by rw [lcg_fv m i hi, e]; exact h2⟩
theorem Mk.run {m : Nat} (hm : Mk m) (h : Int) {j : Nat} (hj : j ≤ m) : ∃ n, n ≤ m + 12 ∧ runI m (SetTable.bits h) n = j := by
  obtain ⟨k, hk, e⟩ := hm.all (runI_le m (SetTable.bits h) 12) hj
  exact ⟨12 + k, by omega, (runI_tail (bits_lt h) k).trans e⟩
theorem Mk.met {m : Nat} (hm : Mk m) (h : Int) {j : Nat} (hj : j ≤ m) : ∃ k, k < 10 * SetTable.turns m ∧ way m h k = j := by
  obtain ⟨n, hn, e⟩ := hm.run h hj
  obtain ⟨k, hk, e2⟩ := run_nth m (SetTable.bits h) n
  exact ⟨k, by unfold SetTable.turns; omega, (congrArg SetTable.Probe.j e2).trans e⟩
theorem Mk.lt {m : Nat} (hm : Mk m) : m < 8192 ∧ 7 ≤ m := by
  obtain ⟨k, h1, h2, e⟩ := hm
  have a : 2 ^ k ≤ 2 ^ 13 := Nat.pow_le_pow_right (by decide) h2
  have b : 2 ^ 3 ≤ 2 ^ k := Nat.pow_le_pow_right (by decide) h1
  have c : (2 : Nat) ^ 13 = 8192 := by decide
  have d : (2 : Nat) ^ 3 = 8 := by decide
  omega
theorem Mk.odd {m : Nat} (hm : Mk m) : m % 2 = 1 := by
  obtain ⟨k, h1, h2, e⟩ := hm
  obtain ⟨k, rfl⟩ : ∃ k', k = k' + 1 := ⟨k - 1, by omega⟩
  rw [Nat.pow_succ] at e
  omega
theorem way_in (m : Nat) (h : Int) (k : Nat) : way m h k ≤ m := by
  have h1 : SetTable.bits h % (m + 1) ≤ m := Nat.le_of_lt_succ (Nat.mod_lt _ (Nat.succ_pos _))
  have h2 := runEnd_bd h1
  have h3 := nth_in (m := m) k (runAt m (SetTable.bits h % (m + 1)) (SetTable.bits h)) (by
    show SetTable.bits h % (m + 1) + (SetTable.runEnd m (SetTable.bits h % (m + 1)) - SetTable.bits h % (m + 1)) ≤ m
    omega)
  exact Nat.le_trans (Nat.le_add_right ..) h3
end Ks

/-! the places of a table, each found again by its hash -/
namespace Ks
open PySem PySem.Spec PyProof.Rows L2
structure Tb (t : SetTable) (hs : List Int) : Prop where
  ris : Ris t.place.toList
  dum : t.dummies = #[]
  len : t.place.size = hs.length
  msk : Mk t.mask
  low : ∀ j ∈ t.place.toList, j ≤ t.mask
  found : ∀ (i : Nat) (h : Int) (j : Nat), hs[i]? = some h → t.place.toList[i]? = some j → ∃ c, way t.mask h c = j ∧ ∀ b, b < c → way t.mask h b ∈ t.place.toList
theorem Tb.stop {t : SetTable} {hs : List Int} (T : Tb t hs) (hl : hs.length ≤ t.mask) (h : Int) : ∃ c, c < 10 * SetTable.turns t.mask ∧ way t.mask h c ∉ t.place.toList ∧ ∀ b, b < c → way t.mask h b ∈ t.place.toList := by
  obtain ⟨j, hj, hn⟩ := st_missing t.place.toList (t.mask + 1) (by rw [Array.length_toList, T.len]; omega)
  obtain ⟨k, hk, e⟩ := T.msk.met h (Nat.le_of_lt_succ hj)
  obtain ⟨c, h1, h2, h3⟩ := st_least (p := fun z => way t.mask h z ∉ t.place.toList) k (by simpa only [e] using hn)
  exact ⟨c, by omega, h2, fun b hb => Classical.byContradiction fun z => h3 b hb z⟩
theorem Tb.ahead {t : SetTable} {hs : List Int} (T : Tb t hs) {h : Int} {c i j : Nat} (hc : way t.mask h c ∉ t.place.toList) (hi : hs[i]? = some h) (hj : t.place.toList[i]? = some j) : ∃ b, b < c ∧ way t.mask h b = j := by
  obtain ⟨b, e, g⟩ := T.found i h j hi hj
  refine ⟨b, Classical.byContradiction fun z => hc ?_, e⟩
  by_cases y : c = b
  · rw [y, e]
    exact List.mem_of_getElem? hj
  · exact g c (by omega)
theorem ins_at {α : Type} {l : List α} {p : Nat} (hp : p ≤ l.length) {x y : α} {i : Nat} (h : (l.take p ++ x :: l.drop p)[i]? = some y) : (i = p ∧ y = x) ∨ (i ≠ p ∧ ∃ i', l[i']? = some y ∧ i' = if i < p then i else i - 1) := by
  rw [tins_get l hp] at h
  by_cases a : i < p
  · rw [if_pos a] at h
    exact .inr ⟨by omega, i, h, by rw [if_pos a]⟩
  · rw [if_neg a] at h
    by_cases b : i = p
    · rw [if_pos b] at h
      exact .inl ⟨b, (Option.some.inj h).symm⟩
    · rw [if_neg b] at h
      exact .inr ⟨b, i - 1, h, by rw [if_neg a]⟩
theorem Tb.put {t : SetTable} {hs : List Int} (T : Tb t hs) {h : Int} {c : Nat} (hc : way t.mask h c ∉ t.place.toList) (hb : ∀ b, b < c → way t.mask h b ∈ t.place.toList) :
    ∃ t1 p, t.put (way t.mask h c) = (t1, p) ∧ p ≤ hs.length ∧ Tb t1 (hs.take p ++ h :: hs.drop p) ∧ t1.mask = t.mask ∧ t1.led = t.led ∧ t1.plain = t.plain ∧ t1.fill = hs.length + 1 := by
  have hw := way_in t.mask h c
  generalize hj : way t.mask h c = j at hc hw
  obtain ⟨c1, _, _⟩ := below_cut T.ris j
  have hl : t.place.toList.length = hs.length := by rw [Array.length_toList, T.len]
  have c1' : SetTable.below t.place j ≤ t.place.size := c1
  have p1 : SetTable.below t.place j ≤ t.place.toList.length := by rw [Array.length_toList]; exact c1'
  have p2 : SetTable.below t.place j ≤ hs.length := by rw [← T.len]; exact c1'
  have hn : t.place[SetTable.below t.place j]? ≠ some j := fun e => hc (List.mem_of_getElem? (by rw [Array.getElem?_toList]; exact e))
  have pl := put_place t j
  have dm := put_dm T.dum j
  have rs := ris_insert T.ris hn
  have sz : (t.put j).1.place.size = hs.length + 1 := by rw [← Array.length_toList, pl, len_ins _ p1, hl]
  refine ⟨(t.put j).1, SetTable.below t.place j, rfl, p2, ⟨rs, dm, by rw [len_ins _ p2, sz], T.msk, fun x hx => ?_, fun i h' j' e1 e2 => ?_⟩, rfl, rfl, rfl, ?_⟩
  · rw [pl] at hx
    rcases mem_ins.mp hx with e | m
    · rw [e]
      exact hw
    · exact T.low x m
  · show ∃ k, way t.mask h' k = j' ∧ ∀ b, b < k → way t.mask h' b ∈ (t.put j).1.place.toList
    have up : ∀ x, x ∈ t.place.toList → x ∈ (t.put j).1.place.toList := fun x m => by
      rw [pl]
      exact mem_ins.mpr (.inr m)
    rw [pl] at e2
    rcases ins_at p2 e1 with ⟨a1, a2⟩ | ⟨a1, i1, a2, a3⟩
    · rcases ins_at p1 e2 with ⟨b1, b2⟩ | ⟨b1, _⟩
      · rw [a2, b2]
        exact ⟨c, hj, fun b z => up _ (hb b z)⟩
      · exact absurd a1 b1
    · rcases ins_at p1 e2 with ⟨b1, _⟩ | ⟨_, i2, b2, b3⟩
      · exact absurd b1 a1
      · rw [← a3] at b3
        rw [b3] at b2
        obtain ⟨k, e, g⟩ := T.found i1 h' j' a2 b2
        exact ⟨k, e, fun b z => up _ (g b z)⟩
  · show (t.put j).1.place.size + (t.put j).1.dummies.size = hs.length + 1
    rw [sz, dm]
    rfl
/-! laid anew -/
theorem free_at {m : Nat} (hm : Mk m) (owner : Array (Option Nat)) (h : Int) {j : Nat} (hj : j ≤ m) (hf : oAt owner j = none) :
    ∃ c, SetTable.layClean.free m owner (SetTable.turns m) (SetTable.bits h % (m + 1)) (SetTable.bits h) = some (way m h c) ∧ oAt owner (way m h c) = none ∧ ∀ b, b < c → oAt owner (way m h b) ≠ none := by
  obtain ⟨n, hn, e⟩ := hm.run h hj
  have e2 : way m h (off m (SetTable.bits h % (m + 1)) (SetTable.bits h) n) = j := by
    unfold way
    rw [nth_off, itL_run]
    exact e
  obtain ⟨c, c1, c2, c3⟩ := st_least (p := fun k => oAt owner (way m h k) = none) (off m (SetTable.bits h % (m + 1)) (SetTable.bits h) n) (by simpa only [e2] using hf)
  refine ⟨c, free_spec m owner _ n _ _ c (by unfold SetTable.turns; omega) c1 (fun b hb => ?_) (by rw [c2]; rfl), c2, c3⟩
  exact Option.isNone_eq_false_iff.mpr (Option.ne_none_iff_isSome.mp (c3 b hb))
theorem own_more {m : Nat} (hm : Mk m) {done : List Int} {owner : Array (Option Nat)} (W : Own m done owner) (hl : done.length ≤ m) (h : Int) :
    ∃ j, SetTable.layClean.free m owner (SetTable.turns m) (SetTable.bits h % (m + 1)) (SetTable.bits h) = some j ∧ Own m (done ++ [h]) (owner.setIfInBounds j (some done.length)) := by
  obtain ⟨ps, p1, p2⟩ := W.ps
  obtain ⟨j0, a0, n0⟩ := st_missing ps (m + 1) (by omega)
  have f0 : oAt owner j0 = none := Classical.byContradiction fun z => n0 (p2 j0 (Nat.le_of_lt_succ a0) z)
  obtain ⟨c, e1, e2, e3⟩ := free_at hm owner h (Nat.le_of_lt_succ a0) f0
  have hw := way_in m h c
  generalize hj : way m h c = j at e1 e2 hw
  have self : oAt (owner.setIfInBounds j (some done.length)) j = some done.length := oAt_set_self _ (by rw [W.sz]; omega)
  have other : ∀ i, i ≠ j → oAt (owner.setIfInBounds j (some done.length)) i = oAt owner i := fun i z => oAt_set_ne _ (fun y => z y)
  have grow : ∀ i, oAt owner i ≠ none → oAt (owner.setIfInBounds j (some done.length)) i ≠ none := fun i z => by
    by_cases y : i = j
    · rw [y, self]
      exact nofun
    · rw [other i y]
      exact z
  refine ⟨j, e1, ⟨by rw [Array.size_setIfInBounds, W.sz], fun i k hi hk => ?_, fun k hk => ?_, j :: ps, by simp [p1], fun i hi hk => ?_⟩⟩
  · by_cases y : i = j
    · rw [y, self] at hk
      refine ⟨h, c, ?_, by rw [hj, y], fun b hb => grow _ (e3 b hb)⟩
      rw [← Option.some.inj hk]
      simp
    · rw [other i y] at hk
      obtain ⟨h', c', g1, g2, g3⟩ := W.at_ i k hi hk
      refine ⟨h', c', ?_, g2, fun b hb => grow _ (g3 b hb)⟩
      rw [List.getElem?_append_left (by exact (List.getElem?_eq_some_iff.mp g1).1), g1]
  · by_cases y : k = done.length
    · exact ⟨j, hw, by rw [self, y]⟩
    · obtain ⟨i, g1, g2⟩ := W.all k (by simp at hk; omega)
      refine ⟨i, g1, ?_⟩
      rw [other i (fun z => by rw [z, e2] at g2; cases g2), g2]
  · by_cases y : i = j
    · rw [y]
      simp
    · rw [other i y] at hk
      exact List.mem_cons_of_mem _ (p2 i hi hk)
theorem own_fold {m : Nat} (hm : Mk m) (rest : List Int) : ∀ (done : List Int) (owner : Array (Option Nat)), Own m done owner → done.length + rest.length ≤ m →
    ∃ o2 n2, rest.foldl (stepF m) (some (owner, done.length)) = some (o2, n2) ∧ Own m (done ++ rest) o2 := by
  induction rest with
  | nil => exact fun done owner W _ => ⟨owner, _, rfl, by rw [List.append_nil]; exact W⟩
  | cons h rest ih =>
    intro done owner W hl
    rw [List.length_cons] at hl
    obtain ⟨j, e, W1⟩ := own_more hm W (by omega) h
    obtain ⟨o2, n2, f, W2⟩ := ih (done ++ [h]) _ W1 (by rw [List.length_append, List.length_singleton]; omega)
    refine ⟨o2, n2, ?_, by rw [List.append_assoc] at W2; exact W2⟩
    rw [List.foldl_cons, stepF_some e, ← f, List.length_append, List.length_singleton]
theorem lay_own {m : Nat} (hm : Mk m) {hs : Array Int} (hn : hs.size ≤ m) : ∃ owner, SetTable.layClean m hs = some owner ∧ Own m hs.toList owner := by
  obtain ⟨o2, n2, f, W⟩ := own_fold hm hs.toList [] _ (Own.init m) (by rw [Array.length_toList]; simpa using hn)
  refine ⟨o2, ?_, by simpa using W⟩
  rw [layClean_eq, show some (Array.replicate (m + 1) none, 0) = some (Array.replicate (m + 1) (none : Option Nat), ([] : List Int).length) from rfl, f]
  rfl
theorem relaid_tb (t : SetTable) {hs : Array Int} {wanted M : Nat} (hw : SetTable.sizeAbove wanted - 1 = M) (hM : Mk M) (hn : hs.size ≤ M) :
    ∃ t1 order, t.relaid hs wanted = some (t1, order) ∧ order.toList.Perm (List.range hs.size) ∧ Tb t1 (order.toList.map fun i => hs.getD i 0) ∧ t1.mask = M ∧ t1.led = t.led ∧ t1.plain = t.plain := by
  obtain ⟨owner, e, W⟩ := lay_own hM hn
  have both := ris_live (fun j => owner.getD j none) (List.range (M + 1)) (show (List.range (M + 1)).Pairwise (· < ·) from List.pairwise_lt_range)
  have live : ∀ j k, (j, k) ∈ liveOf M owner ↔ j ≤ M ∧ oAt owner j = some k := fun j k => mem_live W.sz
  have firsts : ((liveOf M owner).map (·.1)).Pairwise (· < ·) := both.1
  have within : ∀ x ∈ (liveOf M owner).map (·.1), x ≤ M := fun x hx => Nat.le_of_lt_succ (List.mem_range.mp (both.2 x hx))
  have seconds : ∀ k, k < hs.size → k ∈ (liveOf M owner).map (·.2) := fun k hk => by
    obtain ⟨j, b1, b2⟩ := W.all k (by simpa using hk)
    exact List.mem_map.mpr ⟨(j, k), (live j k).mpr ⟨b1, b2⟩, rfl⟩
  have many : (liveOf M owner).length = hs.size := by
    obtain ⟨ps, p1, p2⟩ := W.ps
    have nd : ((liveOf M owner).map (·.1)).Nodup := List.Pairwise.imp (fun z => Nat.ne_of_lt z) firsts
    have up := nat_nodup_len ((liveOf M owner).map (·.1)) ps nd fun x hx => by
      obtain ⟨⟨y, k⟩, hq, rfl⟩ := List.mem_map.mp hx
      have := (live y k).mp hq
      exact p2 y this.1 (by rw [this.2]; exact nofun)
    have down := nat_nodup_len (List.range hs.size) ((liveOf M owner).map (·.2)) List.nodup_range fun k hk => seconds k (List.mem_range.mp hk)
    simp only [List.length_map, List.length_range, p1, Array.length_toList] at up down
    omega
  refine ⟨tabOf t M owner, ((liveOf M owner).map (·.2)).toArray, by rw [relaid_eq, hw, e]; rfl, perm_range _ _ (by simpa using many) (by simpa using seconds), ⟨firsts, rfl, ?_, hM, within, ?_⟩, rfl, rfl, rfl⟩
  · simp [tabOf]
  · intro i h j h1 h2
    have g1 : (((liveOf M owner).map (·.2)).map fun i => hs.getD i 0)[i]? = some h := h1
    have g2 : ((liveOf M owner).map (·.1))[i]? = some j := h2
    rw [List.map_map, List.getElem?_map] at g1
    rw [List.getElem?_map] at g2
    cases hq : (liveOf M owner)[i]? with
    | none =>
      rw [hq] at g2
      cases g2
    | some q =>
      rw [hq] at g1 g2
      obtain ⟨y, k⟩ := q
      cases g1
      cases g2
      obtain ⟨b1, b2⟩ := (live y k).mp (List.mem_of_getElem? hq)
      obtain ⟨h0, c, a1, a2, a3⟩ := W.at_ y k b1 b2
      have e0 : hs.getD k 0 = h0 := by
        rw [Array.getD_eq_getD_getElem?, ← Array.getElem?_toList, a1]
        rfl
      show ∃ c, way M (hs.getD k 0) c = y ∧ ∀ b, b < c → way M (hs.getD k 0) b ∈ (liveOf M owner).map (·.1)
      rw [e0]
      refine ⟨c, a2, fun b hb => ?_⟩
      obtain ⟨k2, z⟩ := Option.ne_none_iff_exists'.mp (a3 b hb)
      exact List.mem_map.mpr ⟨(way M h0 b, k2), (live _ _).mpr ⟨way_in M h0 b, z⟩, rfl⟩
end Ks

/-! a set of keys of any depth: what is asked of it -/
namespace Ks
open PySem PySem.Spec PyProof.Rows L2
section
variable {P : Program} {w : World} {A : Around} {E : Value → Shared → Prop} {s : Shared}
/-- no class statement stands in the value -/
def Clear (P : Program) (w : World) (n : Nat) (s : Shared) (v : Value) : Prop := ∀ (A : Around) (E : Value → Shared → Prop) (Q : Bool → Shared → Prop), Q false s → wpAny (model P w) A (ofAClassStatement n v) Q E s
/-- the value's hash is known, whatever it hangs on -/
def Hashed (P : Program) (w : World) (n : Nat) (s : Shared) (v : Value) : Prop := ∀ (A : Around) (E : Value → Shared → Prop) (Q : Bool → Shared → Prop), (∀ b, Q b s) → wpAny (model P w) A (hashByValue n v) Q E s
theorem clear_tup {n : Nat} {a : Addr} {o : Obj} {vs : Array Value} {m : Nat} (ho : s.heap.get? a = some o) (hc : o.cls = .type "tuple") (hd : o.data = .seq vs m) (hq : ∀ v ∈ vs.toList, Clear P w n s v) : Clear P w (n + 1) s (.ref a) := fun A E Q h => by
  have hT : s.TypeIs (.ref a) "tuple" := ⟨o, ho, hc⟩
  unfold ofAClassStatement
  refine wpAny_bind (wpAny_typeOf hT ?_)
  dsimp only
  rw [if_pos (show (("tuple" : String) == "tuple") = true by decide)]
  try refine wpAny_bind (wpAny_pure ?_)
  simp only [Bool.not_true, Bool.false_eq_true, if_false, pure_bind]
  refine wpAny_bind (wpAny_seqItems ho hd ?_)
  dsimp only
  refine wpAny_bind ?_
  rw [← Array.forIn_toList]
  refine wpAny_forIn_list _ (fun rest r s' => r.1 = none ∧ s' = s ∧ ∀ v ∈ rest, Clear P w n s v) _ ?_ ?_ _ _ ⟨rfl, rfl, hq⟩
  · rintro v rest r s' ⟨_, rfl, g⟩
    refine wpAny_bind (g v (by simp) _ _ _ ?_)
    simp only [Bool.false_eq_true, if_false]
    exact wpAny_pure ⟨rfl, rfl, fun u m => g u (List.mem_cons_of_mem _ m)⟩
  · rintro ⟨_, _⟩ s' ⟨z, rfl, _⟩
    cases z
    exact wpAny_pure h
theorem hashed_tup {n : Nat} {a : Addr} {o : Obj} {vs : Array Value} {m : Nat} (ho : s.heap.get? a = some o) (hc : o.cls = .type "tuple") (hd : o.data = .seq vs m) (hq : ∀ v ∈ vs.toList, Hashed P w n s v) : Hashed P w (n + 1) s (.ref a) := fun A E Q h => by
  have hT : s.TypeIs (.ref a) "tuple" := ⟨o, ho, hc⟩
  unfold hashByValue
  refine wpAny_bind (wpAny_specialOf hT F.slot_tuple_hash.lookup ?_)
  refine wpAny_bind (wpAny_seqItems ho hd ?_)
  refine wpAny_bind ?_
  simp only [Option.getD_some]
  rw [← Array.forIn_toList]
  refine wpAny_forIn_list _ (fun rest r s' => s' = s ∧ ∀ v ∈ rest, Hashed P w n s v) _ ?_ ?_ _ _ ⟨rfl, hq⟩
  · rintro v rest r s' ⟨rfl, g⟩
    refine wpAny_bind (g v (by simp) _ _ _ fun b => ?_)
    cases b with
    | true =>
      simp only [Bool.not_true, Bool.false_eq_true, if_false]
      exact wpAny_pure ⟨rfl, fun u m => g u (List.mem_cons_of_mem _ m)⟩
    | false =>
      simp only [Bool.not_false, if_true]
      exact wpAny_pure (wpAny_pure (h false))
  · rintro ⟨r1, _⟩ s' ⟨rfl, _⟩
    cases r1 with
    | none => exact wpAny_pure (h true)
    | some b => exact wpAny_pure (h b)
theorem clear_val {n : Nat} {v : Value} (h : ofAClassStatement n v = pure false) : Clear P w n s v := fun A E Q q => by
  rw [h]
  exact wpAny_pure q
theorem hashed_val {n : Nat} {v : Value} {b : Bool} (h : hashByValue n v = pure b) : Hashed P w n s v := fun A E Q q => by
  rw [h]
  exact wpAny_pure (q b)
mutual
theorem clear_key : ∀ (k : NestedKey) (v : Value) (n : Nat), NestedIs s.heap k v → k.depth ≤ n → Clear P w n s v
  | .none, _, n, x, _ => by
    cases x
    exact clear_val (by cases n <;> rfl)
  | .num i, _, n, x, _ => by
    cases x <;> exact clear_val (by cases n <;> rfl)
  | .text y, _, n, x, _ => by
    cases x
    exact clear_val (by cases n <;> rfl)
  | .tup ks, _, n, x, hn => by
    cases x with
    | tup hg hc hd hk =>
      simp only [NestedKey.depth] at hn
      cases n with
      | zero => omega
      | succ n => exact clear_tup hg hc hd (clear_keys ks _ n hk (by omega))
theorem clear_keys : ∀ (ks : List NestedKey) (vs : List Value) (n : Nat), NestedAll s.heap ks vs → NestedKey.depthAll ks ≤ n → ∀ v ∈ vs, Clear P w n s v
  | [], _, n, x, _, v, hv => by
    cases x
    cases hv
  | k :: ks, _, n, x, hn, v, hv => by
    cases x with
    | cons x1 x2 =>
      simp only [NestedKey.depthAll] at hn
      rcases List.mem_cons.mp hv with rfl | hv
      · exact clear_key k _ n x1 (by omega)
      · exact clear_keys ks _ n x2 (by omega) v hv
end
mutual
theorem hashed_key : ∀ (k : NestedKey) (v : Value) (n : Nat), NestedIs s.heap k v → k.depth ≤ n → Hashed P w n s v
  | .none, _, n, x, _ => by
    cases x
    exact hashed_val (b := true) (by cases n <;> rfl)
  | .num i, _, n, x, _ => by
    cases x <;> exact hashed_val (b := true) (by cases n <;> rfl)
  | .text y, _, n, x, _ => by
    cases x
    exact hashed_val (b := false) (by cases n <;> rfl)
  | .tup ks, _, n, x, hn => by
    cases x with
    | tup hg hc hd hk =>
      simp only [NestedKey.depth] at hn
      cases n with
      | zero => omega
      | succ n => exact hashed_tup hg hc hd (hashed_keys ks _ n hk (by omega))
theorem hashed_keys : ∀ (ks : List NestedKey) (vs : List Value) (n : Nat), NestedAll s.heap ks vs → NestedKey.depthAll ks ≤ n → ∀ v ∈ vs, Hashed P w n s v
  | [], _, n, x, _, v, hv => by
    cases x
    cases hv
  | k :: ks, _, n, x, hn, v, hv => by
    cases x with
    | cons x1 x2 =>
      simp only [NestedKey.depthAll] at hn
      rcases List.mem_cons.mp hv with rfl | hv
      · exact hashed_key k _ n x1 (by omega)
      · exact hashed_keys ks _ n x2 (by omega) v hv
end
/-- the tuple at b is the key k -/
def KeyAt (h : Heap) (k : NestedKey) (b : Addr) : Prop := NestedIs h k (.ref b) ∧ k.depth ≤ 8
theorem KeyAt.keep {h h' : Heap} {k : NestedKey} {b : Addr} (x : KeyAt h k b) (g : ∀ c o, h.get? c = some o → h'.get? c = some o) : KeyAt h' k b := ⟨NestedIs.at (fun a o _ _ e _ => g a o e) k _ x.1, x.2⟩
theorem KeyAt.same {h h' : Heap} {k : NestedKey} {a b : Addr} {o : Obj} {es : Array (Int × Value)} {ep : Nat} {t : SetTable} (x : KeyAt h k b) (ho : h.get? a = some o) (hd : o.data = .set es ep t) (sb : Heap.SameBut a h h') : KeyAt h' k b :=
  ⟨NestedIs.at (fun c o' vs n e e2 => (sb.2 c fun z => by
    rw [z, ho] at e
    rw [← Option.some.inj e, hd] at e2
    cases e2).trans e) k _ x.1, x.2⟩
theorem seen_key {k : NestedKey} {b : Addr} {Q : Bool → Shared → Prop} (hk : KeyAt s.heap k b) {ys : List Value} (hy : ∀ y ∈ ys, ∃ k' c, y = Value.ref c ∧ KeyAt s.heap k' c) (h : Q false s) : wpAny (model P w) A (searchCouldBeSeen (.ref b) ys) Q E s := by
  unfold searchCouldBeSeen
  refine wpAny_bind ?_
  refine wpAny_forIn_list _ (fun rest r s' => r.1 = none ∧ s' = s ∧ ∀ y ∈ rest, ∃ k' c, y = Value.ref c ∧ KeyAt s.heap k' c) _ ?_ ?_ _ _ ⟨rfl, rfl, hy⟩
  · rintro v rest r s' ⟨_, rfl, g⟩
    obtain ⟨k', c, rfl, hc⟩ := g v (by simp)
    have more := fun y m => g y (List.mem_cons_of_mem _ m)
    dsimp only
    by_cases very : (b == c || (carriedByValue (.ref b) && carriedByValue (.ref c))) = true
    · exact wp_if_pos very (wpAny_pure ⟨rfl, rfl, more⟩)
    · refine wp_if_neg very ?_
      refine wpAny_bind (quiet_key k _ 8 _ hk.1 hk.2 _ _ _ ?_)
      simp only [Bool.not_true, Bool.false_eq_true, if_false]
      refine wpAny_bind (quiet_key k' _ 8 _ hc.1 hc.2 _ _ _ ?_)
      simp only [Bool.not_true, Bool.false_eq_true, if_false]
      refine wpAny_bind (clear_key k _ 8 hk.1 hk.2 _ _ _ ?_)
      simp only [Bool.false_eq_true, if_false]
      refine wpAny_bind (clear_key k' _ 8 hc.1 hc.2 _ _ _ ?_)
      simp only [Bool.false_eq_true, if_false]
      exact wpAny_pure ⟨rfl, rfl, more⟩
  · rintro ⟨_, _⟩ s' ⟨z, rfl, _⟩
    cases z
    exact wpAny_pure h
/-- the set at a holds the keys of L, at their places -/
def rowsK (w : World) (L : List (Addr × NestedKey)) : List (Int × Value) := L.map fun p => (p.2.hash w, Value.ref p.1)
structure SN (w : World) (h : Heap) (a : Addr) (L : List (Addr × NestedKey)) (es : Array (Int × Value)) (ep : Nat) (t : SetTable) : Prop where
  ob : ∃ o, h.get? a = some o ∧ o.ExactSet ∧ o.data = .set es ep t
  rows : es.toList = rowsK w L
  tab : Tb t (L.map fun p => p.2.hash w)
  nd : (L.map (·.2)).Nodup
  room : L.length * 5 < t.mask * 3
  led : w.params.followText "set-order" = true ∨ t.led = true
variable {a : Addr} {L : List (Addr × NestedKey)} {es : Array (Int × Value)} {ep : Nat} {t : SetTable}
theorem rowsK_size (h : es.toList = rowsK w L) : es.size = L.length := by
  have := congrArg List.length h
  simpa [rowsK] using this
theorem SN.size (R : SN w s.heap a L es ep t) : es.size = L.length := rowsK_size R.rows
theorem fits_of {n : Nat} (h1 : t.place.size = n) (h2 : t.dummies = #[]) (h3 : n ≤ t.mask) : t.fits n = true := by
  unfold SetTable.fits SetTable.fill
  rw [h2, h1, beq_self_eq_true, Bool.true_and, decide_eq_true_eq]
  exact h3
theorem SN.fits (R : SN w s.heap a L es ep t) : t.fits es.size = true := by
  have h1 := R.tab.len
  have h2 := R.size
  have h3 := R.room
  rw [List.length_map] at h1
  exact fits_of (h1.trans h2.symm) R.tab.dum (by omega)
theorem SN.entry (R : SN w s.heap a L es ep t) {i : Nat} {p : Addr × NestedKey} (h : L[i]? = some p) : es[i]? = some (p.2.hash w, Value.ref p.1) := by
  rw [← Array.getElem?_toList, R.rows, rowsK, List.getElem?_map, h]
  rfl
theorem SN.at_place (R : SN w s.heap a L es ep t) {i j : Nat} (h : t.place.toList[i]? = some j) : ∃ p, L[i]? = some p := by
  have h1 := R.tab.len
  rw [List.length_map, ← Array.length_toList] at h1
  have h2 := (List.getElem?_eq_some_iff.mp h).1
  exact ⟨_, List.getElem?_eq_getElem (by omega)⟩
/-- the search, from the b-th step of the way on -/
theorem search_way (R : SN w s.heap a L es ep t) (hL : ∀ p ∈ L, KeyAt s.heap p.2 p.1) {x : Addr} {k : NestedKey} (hx : KeyAt s.heap k x) (hu : A.units + 8 < cLine) (ad : Bool) {c : Nat} (hcf : c < 10 * SetTable.turns t.mask)
    (hc : way t.mask (k.hash w) c ∉ t.place.toList) (hcb : ∀ b, b < c → way t.mask (k.hash w) b ∈ t.place.toList) {Q : SetFound → Shared → Prop}
    (hin : ∀ y, k ∈ L.map (·.2) → (ad = false → y.isSome = true) → Q (.there y) s) (hout : k ∉ L.map (·.2) → Q (.free (way t.mask (k.hash w) c) false) s) :
    ∀ (f b : Nat) (stand : Option SetTable.Probe), stand.getD (t.probeStart (k.hash w)) = nth t.mask (runAt t.mask (SetTable.bits (k.hash w) % (t.mask + 1)) (SetTable.bits (k.hash w))) b → b ≤ c → c - b < f →
      (∀ (i : Nat) p, L[i]? = some p → p.2 = k → ∃ b', b ≤ b' ∧ b' < c ∧ t.place.toList[i]? = some (way t.mask (k.hash w) b')) →
      wpAny (model P w) A (setSearchFrom a (.ref x) (k.hash w) ad f stand) Q E s := by
  obtain ⟨o, ho, hex, hd⟩ := R.ob
  generalize hst : runAt t.mask (SetTable.bits (k.hash w) % (t.mask + 1)) (SetTable.bits (k.hash w)) = st
  have wayE : ∀ q, way t.mask (k.hash w) q = (nth t.mask st q).j := fun q => by rw [← hst]
  have dum0 : ∀ (n : Nat) (p : SetTable.Probe), p.dummy = none → (nth t.mask p n).dummy = none := by
    intro n
    induction n with
    | zero => exact fun p e => e
    | succ n ih =>
      intro p e
      refine ih (adv t.mask p) ?_
      unfold adv
      split
      · exact e
      · exact e
  have hashes : ∀ (i : Nat) p, L[i]? = some p → (es[i]?.map (·.1)).getD 0 = p.2.hash w := fun i p e => by
    rw [R.entry e]
    rfl
  intro f
  induction f with
  | zero => exact fun b stand _ _ z _ => absurd z (Nat.not_lt_zero _)
  | succ f ih =>
    intro b stand hs hb hf hre
    rw [setSearchFrom_succ]
    refine wpAny_bind (wpAny_setState_of ho hd R.fits ?_)
    dsimp only
    refine wp_if_neg (by unfold SetTable.gaveWay; rw [R.tab.msk.odd]; decide) ?_
    try refine wpAny_bind (wpAny_pure ?_)
    have step : ∀ q, (nth t.mask (nth t.mask st b) q).j = way t.mask (k.hash w) (b + q) := fun q => by rw [wayE, nth_add]
    have known : ∀ i q, b + q ≤ c → t.place.toList[i]? = some (way t.mask (k.hash w) (b + q)) → ∃ p, L[i]? = some p := fun i q _ e => R.at_place e
    have spec := go_spec t R.tab.ris R.tab.dum (fun i => (es[i]?.map (·.1)).getD 0) (k.hash w) (10 * SetTable.turns t.mask) (c - b) (nth t.mask st b) (by rw [← hst]; exact dum0 b _ rfl) (by omega)
      (fun q hq => by rw [step]; exact hcb _ (by omega)) (by rw [step, show b + (c - b) = c by omega]; exact hc)
    have later : ∀ q, (∀ q' i', q' < q → t.place.toList[i']? = some (nth t.mask (nth t.mask st b) q').j → (Option.map (fun e : Int × Value => e.1) es[i']?).getD 0 ≠ k.hash w) → ∀ (i : Nat) p, L[i]? = some p → p.2 = k → ∃ b', b + q ≤ b' ∧ b' < c ∧ t.place.toList[i]? = some (way t.mask (k.hash w) b') := fun q hno i p e1 e2 => by
      obtain ⟨b', g1, g2, g3⟩ := hre i p e1 e2
      refine ⟨b', Classical.byContradiction fun z => ?_, g2, g3⟩
      refine hno (b' - b) i (by omega) (by rw [step, show b + (b' - b) = b' by omega]; exact g3) ?_
      rw [hashes i p e1, e2]
    rw [← hst] at hs
    rcases spec with ⟨q, i, hq, hi, hh, hno, hpr⟩ | ⟨hno, hpr⟩
    · have hpr2 : t.probe (fun i => (es[i]?.map (·.1)).getD 0) (k.hash w) (stand.getD (t.probeStart (k.hash w))) = some (.candidate (way t.mask (k.hash w) (b + q)) i (nth t.mask (nth t.mask st b) (q + 1))) := by
        rw [hs, ← step, hst]
        exact hpr
      rw [hpr2]
      dsimp only
      rw [step] at hi
      obtain ⟨p, hp⟩ := R.at_place hi
      have hm := List.mem_of_getElem? hp
      have hsl : t.slot (way t.mask (k.hash w) (b + q)) = .live i := slot_live R.tab.ris hi
      have rest : wpAny (model P w) A (searchRest a (.ref x) (k.hash w) ad f es t (way t.mask (k.hash w) (b + q)) i (nth t.mask (nth t.mask st b) (q + 1))) Q E s := by
        unfold searchRest
        rw [R.entry hp]
        dsimp only
        refine wpAny_bind (wpAny_holding ((nestedKind P w).eqBool (show A.units + 8 < cLine from hu) (hL p hm) hx ?_))
        refine wpAny_bind (wpAny_setState_of ho hd R.fits ?_)
        dsimp only
        by_cases hkk : p.2 = k
        · have here : k ∈ L.map (·.2) := List.mem_map.mpr ⟨p, hm, hkk⟩
          cases ad with
          | true =>
            refine wp_if_pos (by simp [hkk]) ?_
            exact wpAny_pure (hin _ here nofun)
          | false =>
            refine wp_if_neg (by simp) ?_
            try refine wpAny_bind (wpAny_pure ?_)
            rw [sameMem]
            dsimp only
            simp only [if_true, hsl, R.entry hp]
            refine wpAny_bind (wpAny_isSame_ref_self (wpAny_bind (wpAny_pure ?_)))
            simp only [if_true]
            refine wp_if_pos (by simp [hkk]) ?_
            exact wpAny_pure (hin _ here fun _ => rfl)
        · refine wp_if_neg (by simp [hkk]) ?_
          try refine wpAny_bind (wpAny_pure ?_)
          rw [sameMem]
          dsimp only
          simp only [if_true, hsl, R.entry hp]
          refine wpAny_bind (wpAny_isSame_ref_self (wpAny_bind (wpAny_pure ?_)))
          simp only [if_true]
          refine wp_if_neg (by simp [hkk]) ?_
          refine ih (b + (q + 1)) _ (by rw [Option.getD_some, ← nth_add]) (by omega) (by omega) fun i0 p0 h0 hk0 => ?_
          obtain ⟨b', g1, g2, g3⟩ := later q hno i0 p0 h0 hk0
          refine ⟨b', Classical.byContradiction fun z => ?_, g2, g3⟩
          rw [show b' = b + q by omega] at g3
          have same := slot_live R.tab.ris g3
          rw [hsl] at same
          injection same with same
          rw [← same, hp] at h0
          exact hkk ((congrArg Prod.snd (Option.some.inj h0)).trans hk0)
      by_cases hl : t.led = true
      · refine wp_if_neg (by simp [hl]) ?_
        try refine wpAny_bind (wpAny_pure ?_)
        exact rest
      · refine wp_if_pos (by simp [hl]) ?_
        refine wpAny_bind (seen_key hx (fun y hy => ?_) ?_)
        · obtain ⟨e, he, rfl⟩ := List.mem_map.mp hy
          have he2 : e ∈ es.toList := by
            have : e ∈ es ∧ e.1 = k.hash w := by simpa using he
            simpa using this.1
          rw [R.rows] at he2
          obtain ⟨p2, hp2, rfl⟩ := List.mem_map.mp he2
          exact ⟨p2.2, p2.1, rfl, hL p2 hp2⟩
        · refine wp_if_neg (by decide) ?_
          try refine wpAny_bind (wpAny_pure ?_)
          exact rest
    · have hpr2 : t.probe (fun i => (es[i]?.map (·.1)).getD 0) (k.hash w) (stand.getD (t.probeStart (k.hash w))) = some (.empty (way t.mask (k.hash w) c) none) := by
        rw [hs, show way t.mask (k.hash w) c = (nth t.mask (nth t.mask st b) (c - b)).j by rw [step, show b + (c - b) = c by omega], hst]
        exact hpr
      rw [hpr2]
      dsimp only
      refine wpAny_pure (hout fun hm => ?_)
      obtain ⟨p0, m0, hk0⟩ := List.mem_map.mp hm
      obtain ⟨i0, hi0⟩ := List.getElem?_of_mem m0
      obtain ⟨b', g1, g2, g3⟩ := later (c - b) hno i0 p0 hi0 hk0
      omega
theorem search_key (R : SN w s.heap a L es ep t) (hL : ∀ p ∈ L, KeyAt s.heap p.2 p.1) {x : Addr} {k : NestedKey} (hx : KeyAt s.heap k x) (hu : A.units + 8 < cLine) (ad : Bool) {Q : SetFound → Shared → Prop}
    (hin : ∀ y, k ∈ L.map (·.2) → (ad = false → y.isSome = true) → Q (.there y) s)
    (hout : ∀ c, k ∉ L.map (·.2) → way t.mask (k.hash w) c ∉ t.place.toList → (∀ b, b < c → way t.mask (k.hash w) b ∈ t.place.toList) → Q (.free (way t.mask (k.hash w) c) false) s) :
    wpAny (model P w) A (setSearch a (.ref x) (k.hash w) ad) Q E s := by
  have hr := R.room
  obtain ⟨c, hcf, hc, hcb⟩ := R.tab.stop (by rw [List.length_map]; omega) (k.hash w)
  have hb : c < 100000 := by
    have h1 := R.tab.msk.lt
    unfold SetTable.turns at hcf
    omega
  unfold setSearch
  refine search_way R hL hx hu ad hcf hc hcb hin (fun hn => hout c hn hc hcb) 100000 0 none rfl (Nat.zero_le _) (by omega) fun i p hp hk => ?_
  have hi : (L.map fun p => p.2.hash w)[i]? = some (k.hash w) := by
    rw [List.getElem?_map, hp, ← hk]
    rfl
  have hil : i < t.place.toList.length := by
    have h2 := R.tab.len
    rw [List.length_map, ← Array.length_toList] at h2
    have := (List.getElem?_eq_some_iff.mp hp).1
    omega
  obtain ⟨b, g1, g2⟩ := R.tab.ahead hc hi (List.getElem?_eq_getElem hil)
  exact ⟨b, Nat.zero_le _, g1, by rw [List.getElem?_eq_getElem hil, g2]⟩
end
end Ks

/-! a set of keys: one more in it, and whether it has one -/
namespace Ks
open PySem PySem.Spec PyProof.Rows L2
theorem size_go (n : Nat) : ∀ f k, n < 2 ^ (k + f) → ∃ k', k ≤ k' ∧ SetTable.sizeAbove.go n f (2 ^ k) = 2 ^ k' ∧ n < 2 ^ k' ∧ (k' = k ∨ 2 ^ k' ≤ 2 * n)
  | 0, k, h => ⟨k, Nat.le_refl _, rfl, h, .inl rfl⟩
  | f + 1, k, h => by
    unfold SetTable.sizeAbove.go
    by_cases c : 2 ^ k ≤ n
    · rw [if_pos c, show 2 ^ k * 2 = 2 ^ (k + 1) from (Nat.pow_succ ..).symm]
      obtain ⟨k', a1, a2, a3, a4⟩ := size_go n f (k + 1) (by rw [show k + 1 + f = k + (f + 1) by omega]; exact h)
      refine ⟨k', by omega, a2, a3, .inr ?_⟩
      rcases a4 with e | e
      · rw [e, Nat.pow_succ]
        omega
      · exact e
    · rw [if_neg c]
      exact ⟨k, Nat.le_refl _, rfl, by omega, .inl rfl⟩
theorem grown_size {n : Nat} (h0 : 1 ≤ n) (h : n ≤ 1000) : ∃ M, SetTable.sizeAbove (SetTable.grown n) = M + 1 ∧ Mk M ∧ 4 * n ≤ M ∧ M + 1 ≤ 8192 := by
  have g : SetTable.grown n = n * 4 := by
    unfold SetTable.grown
    rw [if_neg (by omega)]
  have big : n * 4 < 2 ^ (3 + 64) := by
    have : (2 : Nat) ^ (3 + 64) = 147573952589676412928 := by decide
    omega
  obtain ⟨k, a1, a2, a3, a4⟩ := size_go (n * 4) 64 3 big
  have hk : k ≤ 12 := Classical.byContradiction fun z => by
    have : 2 ^ 13 ≤ 2 ^ k := Nat.pow_le_pow_right (by decide) (by omega)
    have e : (2 : Nat) ^ 13 = 8192 := by decide
    rcases a4 with b | b
    · omega
    · omega
  have up : 2 ^ k ≤ 2 ^ 12 := Nat.pow_le_pow_right (by decide) hk
  have e12 : (2 : Nat) ^ 12 = 4096 := by decide
  have hp : 0 < 2 ^ k := Nat.two_pow_pos k
  refine ⟨2 ^ k - 1, ?_, ⟨k, a1, by omega, by omega⟩, by omega, by omega⟩
  rw [g]
  show SetTable.sizeAbove.go (n * 4) 64 8 = _
  rw [show (8 : Nat) = 2 ^ 3 by decide, a2]
  omega
theorem range_all {α : Type} : ∀ l : List α, (List.range l.length).filterMap (fun i => l[i]?) = l
  | [] => rfl
  | x :: l => by
    rw [List.length_cons, List.range_succ_eq_map, List.filterMap_cons_some (f := fun i => (x :: l)[i]?) (a := 0) (b := x) rfl, List.filterMap_map]
    exact congrArg (x :: ·) (range_all l)
theorem rows_order {w : World} {L : List (Addr × NestedKey)} {es : Array (Int × Value)} {order : Array Nat} (hr : es.toList = rowsK w L) (hp : order.toList.Perm (List.range L.length)) :
    ∃ L2, (order.filterMap (es[·]?)).toList = rowsK w L2 ∧ L2.Perm L ∧ (L2.map fun p => p.2.hash w) = order.toList.map fun i => (es.map (·.1)).getD i 0 := by
  have ent : ∀ i : Nat, es[i]? = (L[i]?).map fun p => (p.2.hash w, Value.ref p.1) := fun i => by
    rw [← Array.getElem?_toList, hr, rowsK, List.getElem?_map]
  have some_ : ∀ l : List Nat, (∀ i ∈ l, i < L.length) → ((l.filterMap fun i => L[i]?).map fun p => p.2.hash w) = l.map fun i => (es.map (·.1)).getD i 0 := by
    intro l
    induction l with
    | nil => exact fun _ => rfl
    | cons i l ih =>
      intro h
      have hi := h i (by simp)
      have e := List.getElem?_eq_getElem hi
      rw [List.filterMap_cons_some e, List.map_cons, List.map_cons, ih fun j hj => h j (List.mem_cons_of_mem _ hj)]
      refine congrArg (· :: _) ?_
      have e2 : (es.map (·.1))[i]? = some (L[i].2.hash w) := by
        rw [Array.getElem?_map, ent, e]
        rfl
      rw [Array.getD_eq_getD_getElem?, e2]
      rfl
  refine ⟨order.toList.filterMap fun i => L[i]?, ?_, ?_, some_ _ fun i hi => List.mem_range.mp (hp.mem_iff.mp hi)⟩
  · rw [Array.toList_filterMap, rowsK, List.map_filterMap]
    exact congrArg (List.filterMap · order.toList) (funext ent)
  · have := hp.filterMap fun i => L[i]?
    rw [range_all] at this
    exact this
section
variable {P : Program} {w : World} {A : Around} {E : Value → Shared → Prop} {s : Shared} {a : Addr} {L : List (Addr × NestedKey)} {es : Array (Int × Value)} {ep : Nat} {t : SetTable}
theorem relay_key {o : Obj} (ho : s.heap.get? a = some o) (hex : o.ExactSet) (hd : o.data = .set es ep t) (hrows : es.toList = rowsK w L) (T : Tb t (L.map fun p => p.2.hash w)) (nd : (L.map (·.2)).Nodup) (hled : w.params.followText "set-order" = true ∨ t.led = true) (hfl : L.length ≤ t.mask)
    (few : L.length ≤ 1000) (h0 : 1 ≤ L.length) {Q : Unit → Shared → Prop} (hQ : ∀ h' L' es' ep' t', Heap.SameBut a s.heap h' → SN w h' a L' es' ep' t' → L'.Perm L → Q () { s with heap := h' }) :
    wpAny (model P w) A (setRelay a (SetTable.grown L.length)) Q E s := by
  have hsl := rowsK_size hrows
  obtain ⟨M, m1, m2, m3, m4⟩ := grown_size h0 few
  have hfits : t.fits es.size = true := fits_of (by have := T.len; rw [List.length_map] at this; omega) T.dum (by omega)
  obtain ⟨t1, order, e, hp, T1, em, el, _⟩ := relaid_tb t (hs := es.map (·.1)) (wanted := SetTable.grown L.length) (M := M) (by omega) m2 (by rw [Array.size_map, hsl]; omega)
  rw [Array.size_map, hsl] at hp
  obtain ⟨L2, r1, r2, r3⟩ := rows_order hrows hp
  rw [← r3] at T1
  have hz : (order.filterMap (es[·]?)).size = es.size := by rw [rowsK_size r1, r2.length_eq, hsl]
  rw [setRelay_eq]
  refine wpAny_bind (wpAny_setState_of ho hd hfits ?_)
  dsimp only
  refine wp_if_neg (by rw [sizeLine_eq]; omega) ?_
  try refine wpAny_bind (wpAny_pure ?_)
  rw [e]
  dsimp only
  refine wpAny_bind ?_
  refine wp_if_neg (by rw [hz]; simp) ?_
  try refine wpAny_bind (wpAny_pure ?_)
  refine wpAny_pure ?_
  dsimp only
  refine wpAny_storeSet_of ho hd ?_ (by rw [hz, hsl, sizeLine_eq]; omega)
  refine hQ _ L2 (order.filterMap (es[·]?)) (ep + 1) t1 (Heap.SameBut.update ..) ⟨⟨_, store_at ho hd, ⟨hex.1, hex.2.1, hex.2.2⟩, rfl⟩, r1, T1, (r2.map (·.2)).nodup_iff.mpr nd, ?_, hled.imp id fun z => by rw [el]; exact z⟩ r2
  rw [r2.length_eq, em]
  omega
theorem add_key (R : SN w s.heap a L es ep t) (hL : ∀ p ∈ L, KeyAt s.heap p.2 p.1) {x : Addr} {k : NestedKey} (hx : KeyAt s.heap k x) (hu : A.units + 8 < cLine) (few : L.length + 1 ≤ 1000) {Q : Bool → Shared → Prop}
    (hQ : ∀ b h' L' es' ep' t', Heap.SameBut a s.heap h' → SN w h' a L' es' ep' t' → (k ∈ L.map (·.2) → L' = L) → (k ∉ L.map (·.2) → L'.Perm ((x, k) :: L)) → Q b { s with heap := h' }) :
    wpAny (model P w) A (setAddHashed a (.ref x) (k.hash w)) Q E s := by
  obtain ⟨o, ho, hex, hd⟩ := R.ob
  have hsl := R.size
  have hroom := R.room
  unfold setAddHashed
  refine wpAny_holding ?_
  rw [show (100000 : Nat) = 99999 + 1 from rfl, setAddHashedIn_succ]
  refine wpAny_bind (wpAny_setState_of ho hd R.fits ?_)
  dsimp only
  refine wp_if_neg (by simp [byScan, Value.scannable]) ?_
  try refine wpAny_bind (wpAny_pure ?_)
  refine wpAny_bind (search_key R hL hx hu true (fun y hm _ => ?_) fun c hm hc hb => ?_)
  · dsimp only
    exact wpAny_pure (hQ false s.heap L es ep t (Heap.SameBut.refl a s.heap) R (fun _ => rfl) fun z => absurd hm z)
  dsimp only
  refine wpAny_bind (wpAny_setState_of ho hd R.fits ?_)
  dsimp only
  obtain ⟨t1, p, q1, q2, q3, q4, q5, q6, q7⟩ := R.tab.put hc hb
  rw [List.length_map] at q2 q7
  rw [q1]
  dsimp only
  have pm : (L.take p ++ (x, k) :: L.drop p).Perm ((x, k) :: L) := put_perm L p (x, k)
  have hlen := pm.length_eq
  rw [List.length_cons] at hlen
  have hh : (L.take p ++ (x, k) :: L.drop p).map (fun p => p.2.hash w) = (L.map fun p => p.2.hash w).take p ++ k.hash w :: (L.map fun p => p.2.hash w).drop p := by
    simp only [List.map_append, List.map_cons, List.map_take, List.map_drop]
  have hin : (SetTable.insertAt es p (k.hash w, Value.ref x)).toList = rowsK w (L.take p ++ (x, k) :: L.drop p) := by
    rw [SetTable.toList_insertAt, R.rows]
    simp only [rowsK, List.map_append, List.map_cons, List.map_take, List.map_drop]
  rw [← hh] at q3
  have nd1 : ((L.take p ++ (x, k) :: L.drop p).map (·.2)).Nodup := by
    refine (pm.map (·.2)).nodup_iff.mpr ?_
    exact List.nodup_cons.mpr ⟨hm, R.nd⟩
  generalize hes1 : SetTable.insertAt es p (k.hash w, Value.ref x) = es1 at hin ⊢
  generalize hL1 : L.take p ++ (x, k) :: L.drop p = L1 at pm hlen q3 nd1 hin
  have hes : es1.size = L1.length := rowsK_size hin
  have led1 : w.params.followText "set-order" = true ∨ t1.led = true := R.led.imp id fun z => by rw [q5]; exact z
  have go : ∀ t2 : SetTable, Tb t2 (L1.map fun p => p.2.hash w) → t2.mask = t.mask → t2.fill = L.length + 1 → t2.led = t1.led →
      wpAny (model P w) A (do
        storeSet a es1 t2
        if !false && t2.tooFull then setRelay a (SetTable.grown (es.size + 1))
        return true) Q E s := by
    intro t2 T2 em ef el2
    have led2 : w.params.followText "set-order" = true ∨ t2.led = true := led1.imp id fun z => by rw [el2]; exact z
    refine wpAny_bind (wpAny_storeSet_of ho hd ?_ (by rw [hes, sizeLine_eq]; omega))
    have sb : Heap.SameBut a s.heap (s.heap.update a (Obj.putSet es1 t2)) := Heap.SameBut.update ..
    have ho1 := store_at (es' := es1) (t' := t2) ho hd
    generalize s.heap.update a (Obj.putSet es1 t2) = h1 at sb ho1 ⊢
    by_cases hf : t2.tooFull = true
    · have next : wpAny (model P w) A (setRelay a (SetTable.grown L1.length)) (fun _ s' => wpAny (model P w) A (pure true) Q E s') E { s with heap := h1 } :=
        relay_key (s := { s with heap := h1 }) ho1 ⟨hex.1, hex.2.1, hex.2.2⟩ rfl hin T2 nd1 led2 (by omega) (by omega) (by omega) fun h2 L2 es2 ep2 t3 sb2 R2 pm2 =>
          wpAny_pure (hQ true h2 L2 es2 ep2 t3 (sb.trans sb2) R2 (fun z => absurd z hm) fun _ => pm2.trans pm)
      rw [hlen, ← hsl] at next
      first
        | (refine wpAny_bind ?_; refine wp_if_pos (by simp [hf]) ?_; exact next)
        | (refine wp_if_pos (by simp [hf]) ?_; exact wpAny_bind next)
    · have room1 : L1.length * 5 < t2.mask * 3 := by
        have z := hf
        unfold SetTable.tooFull at z
        rw [decide_eq_true_eq, ef] at z
        omega
      have last : Q true { s with heap := h1 } := hQ true h1 L1 es1 (ep + 1) t2 sb ⟨⟨_, ho1, ⟨hex.1, hex.2.1, hex.2.2⟩, rfl⟩, hin, T2, nd1, room1, led2⟩ (fun z => absurd z hm) fun _ => pm
      first
        | (refine wp_if_neg (by simp [hf]) ?_; exact wpAny_pure last)
        | (refine wpAny_bind ?_; refine wp_if_neg (by simp [hf]) ?_; exact wpAny_pure (wpAny_pure last))
  have any : ∀ b : Bool, wpAny (model P w) A (do
        storeSet a es1 (if b then t1 else { t1 with plain := false })
        if !false && (if b then t1 else { t1 with plain := false }).tooFull then setRelay a (SetTable.grown (es.size + 1))
        return true) Q E s := fun b => by
    cases b with
    | true => exact go t1 q3 q4 q7 rfl
    | false => exact go { t1 with plain := false } ⟨q3.ris, q3.dum, q3.len, q3.msk, q3.low, q3.found⟩ q4 q7 rfl
  by_cases hpl : t1.plain = true
  · first
      | (refine wpAny_bind ?_; refine wp_if_pos hpl ?_; exact hashed_key k _ 8 hx.1 hx.2 _ _ _ any)
      | (refine wp_if_pos hpl ?_; exact wpAny_bind (hashed_key k _ 8 hx.1 hx.2 _ _ _ any))
  · first
      | (refine wpAny_bind ?_; refine wp_if_neg hpl ?_; exact wpAny_pure (any true))
      | (refine wp_if_neg hpl ?_; exact wpAny_bind (wpAny_pure (any true)))
end
end Ks

/-! a set of keys: made of a list or a tuple; in and not in -/
namespace Ks
open PySem PySem.Spec PyProof.Rows L2
/-- what has come in from the first i -/
def Gets (ks : List (Addr × NestedKey)) (i : Nat) (L : List (Addr × NestedKey)) : Prop := (∀ p ∈ L, p ∈ ks.take i) ∧ (∀ p ∈ ks.take i, p.2 ∈ L.map (·.2)) ∧ L.length ≤ i
theorem Gets.next {ks L L2 : List (Addr × NestedKey)} {i : Nat} {x : Addr × NestedKey} (g : Gets ks i L) (h : ks[i]? = some x) (same : x.2 ∈ L.map (·.2) → L2 = L) (more : x.2 ∉ L.map (·.2) → L2.Perm (x :: L)) : Gets ks (i + 1) L2 := by
  obtain ⟨g1, g2, g3⟩ := g
  have e : ks.take (i + 1) = ks.take i ++ [x] := take_next h
  by_cases c : x.2 ∈ L.map (·.2)
  · rw [same c]
    refine ⟨fun p m => by rw [e]; exact List.mem_append_left _ (g1 p m), fun p m => ?_, by omega⟩
    rw [e] at m
    rcases List.mem_append.mp m with m | m
    · exact g2 p m
    · rw [List.mem_singleton.mp m]
      exact c
  · have pm := more c
    refine ⟨fun p m => ?_, fun p m => ?_, by rw [pm.length_eq, List.length_cons]; omega⟩
    · rw [e]
      rcases List.mem_cons.mp (pm.mem_iff.mp m) with rfl | m
      · exact List.mem_append_right _ (by simp)
      · exact List.mem_append_left _ (g1 p m)
    · rw [(pm.map (·.2)).mem_iff, List.map_cons]
      rw [e] at m
      rcases List.mem_append.mp m with m | m
      · exact List.mem_cons_of_mem _ (g2 p m)
      · rw [List.mem_singleton.mp m]
        simp
section
variable {P : Program} {w : World} {A : Around} {E : Value → Shared → Prop} {s : Shared}
theorem SN.keep {h h' : Heap} {a : Addr} {L : List (Addr × NestedKey)} {es : Array (Int × Value)} {ep : Nat} {t : SetTable} (R : SN w h a L es ep t) (g : ∀ o, h.get? a = some o → h'.get? a = some o) : SN w h' a L es ep t := by
  obtain ⟨o, ho, r⟩ := R.ob
  exact ⟨⟨o, g o ho, r⟩, R.rows, R.tab, R.nd, R.room, R.led⟩
theorem sn_new {h : Heap} {a : Addr} {led : Bool} (ho : h.get? a = some { cls := .type "set", dict := none, data := .set #[] 0 (.fresh 0 0 led) }) (hl : w.params.followText "set-order" = true ∨ led = true) : SN w h a [] #[] 0 (.fresh 0 0 led) where
  ob := ⟨_, ho, ⟨rfl, rfl, rfl⟩, rfl⟩
  rows := rfl
  tab := ⟨.nil, rfl, rfl, ⟨3, by decide, by decide, rfl⟩, nofun, fun i h j e => by simp at e⟩
  nd := .nil
  room := show 0 * 5 < 7 * 3 by decide
  led := hl
theorem loop_keys {I : Addr} {fp wr : List Addr} {G : Array GenState → Array GenState → Prop} {n : Nat} {Pv : Nat → Value → Prop} {St : Nat → Shared → Prop} {R : Result → Shared → Prop} (W : WalksS P w A.in1 I fp wr G n Pv St) (S : Addr) (hS : S ∉ fp)
    {ks : List (Addr × NestedKey)} (hn : n = ks.length) (few : ks.length < 1000) (hv : ∀ i v, Pv i v → ∃ p, ks[i]? = some p ∧ v = .ref p.1) (h0 : Heap) (hk : ∀ p ∈ ks, KeyAt h0 p.2 p.1) (hS0 : h0.get? S = none) (hw0 : ∀ b ∈ wr, h0.get? b = none) (hu : A.in1.units + 8 < cLine) :
    ∀ (k i : Nat) (s : Shared), n - i = k → i ≤ n → St i s → (∀ b o, h0.get? b = some o → s.heap.get? b = some o) → (∃ L es ep t, SN w s.heap S L es ep t ∧ Gets ks i L) →
      (∀ s' L es ep t, Moved (S :: wr) G s s' → SN w s'.heap S L es ep t → Gets ks n L → (∀ b o, h0.get? b = some o → s'.heap.get? b = some o) → R (.ok (.ret .none)) s') →
      codeAny (model P w) A (.builtin "set.update.loop" ⟨[.ref S, .ref I], []⟩) R s := by
  have out : S ∉ wr := fun z => hS (W.sub _ z)
  have still : ∀ {s s' : Shared}, Moved wr G s s' → (∀ b o, h0.get? b = some o → s.heap.get? b = some o) → ∀ b o, h0.get? b = some o → s'.heap.get? b = some o := fun m g b o e =>
    m.heap b o (fun z => by rw [hw0 b z] at e; cases e) (g b o e)
  intro k
  induction k with
  | zero =>
    rintro i s hz hi hst g ⟨L, es, ep, t, hN, hG⟩ hR
    obtain rfl : i = n := by omega
    refine codeAny_builtin F.entry_set_update_loop ?_
    rw [Around.under_plainId F.plain_set_update_loop _]
    refine wpAny_bind (W.done s _ _ hst fun s' hm => ?_)
    exact wpAny_pure (hR s' L es ep t (hm.mono fun b m => List.mem_cons_of_mem _ m) (hN.keep fun o e => hm.heap S o out e) hG (still hm g))
  | succ k ih =>
    rintro i s hz hi hst g ⟨L, es, ep, t, hN, hG⟩ hR
    refine codeAny_builtin F.entry_set_update_loop ?_
    rw [Around.under_plainId F.plain_set_update_loop _]
    refine wpAny_bind (W.item i s _ _ (by omega) hst fun v s' hP hst' hm => ?_)
    obtain ⟨p, hp, rfl⟩ := hv i v hP
    have g' := still hm g
    have hN' := hN.keep (h' := s'.heap) fun o e => hm.heap S o out e
    have at_ : ∀ q ∈ ks, KeyAt s'.heap q.2 q.1 := fun q m => (hk q m).keep g'
    have hx := at_ p (List.mem_of_getElem? hp)
    have hL : ∀ q ∈ L, KeyAt s'.heap q.2 q.1 := fun q m => at_ q (List.mem_of_mem_take (hG.1 q m))
    have hl := hG.2.2
    refine wpAny_bind (wpAny_holding ?_)
    unfold setAdd
    refine wpAny_holding ?_
    refine wpAny_bind ((nestedKind P w).pyHash (show A.in1.units + 8 < cLine from hu) hx ?_)
    refine add_key (s := { s' with toks := s'.toks + p.2.draws }) hN' hL hx hu (by omega) fun b h' L' es' ep' t' sb hN2 c1 c2 => ?_
    have g2 : ∀ b o, h0.get? b = some o → h'.get? b = some o := fun b o e => (sb.2 b fun z => by rw [z, hS0] at e; cases e).trans (g' b o e)
    refine wpAny_pure ⟨plainId_quiet F.plain_set_update_loop _, ih (i + 1) _ (by omega) (by omega) (W.frame _ s' _ _ hst' (Nat.le_add_right ..) fun b m o e => (sb.2 b fun z => hS (z ▸ m)).trans e) g2 ⟨L', es', ep', t', hN2, hG.next hp c1 c2⟩ fun s2 L2 es2 ep2 t2 hm2 hN3 hG2 g3 => ?_⟩
    refine hR s2 L2 es2 ep2 t2 (Moved.trans W.gtrans ((hm.mono fun b m => List.mem_cons_of_mem _ m).then_heap (Nat.le_add_right ..) fun b o m e => ?_) hm2) hN3 hG2 g3
    exact (sb.2 b fun z => m (by rw [z]; simp)).trans e
set_option maxHeartbeats 3200000 in
theorem set_of_keys {l : Addr} {items : Array Value} (ks : List (Addr × NestedKey)) {Q : Value → Shared → Prop} (hh : A.handled = none) (hl : s.heap.IsList l items ∨ s.heap.IsTuple l items) (hit : items.toList = ks.map fun p => Value.ref p.1)
    (hk : ∀ p ∈ ks, KeyAt s.heap p.2 p.1) (few : ks.length < 1000) (hu : A.units + 16 < cLine)
    (h : ∀ (h' : Heap) (tk : Nat) L es ep t, SN w h' s.heap.objs.size L es ep t → Gets ks ks.length L → (∀ b o, s.heap.get? b = some o → h'.get? b = some o) → Q (.ref s.heap.objs.size) { s with heap := h', toks := tk }) :
    wpAny (model P w) A (call (.type "set") [.ref l]) Q E s := by
  have many : items.size = ks.length := by simpa using congrArg List.length hit
  obtain ⟨c, tl, hmro⟩ := F.called_set.mro
  have hmade := F.called_set.made; have hsub := F.called_set.sub
  refine wpAny_call (codeAny_of_tree (show wpAny _ _ (callAny (.type "set") _) _ _ _ from wpAny_pure ⟨Code.quiet_builtin _ (by decide +kernel), codeAny_builtin F.entry_type_call ?_⟩))
  rw [Around.under_plain (weight_type_call_type "set" [.ref l] []) rfl]
  have h1 := F.called_set.notType; have h2 := F.called_set.canCreate; have hct := F.typeCall_set_1 (.ref l)
  repeat (any_goals (first | assumption | wp_step))
  generalize hled : (!w.params.followText "set-order") = led
  have hlw : w.params.followText "set-order" = true ∨ led = true := by
    rw [← hled]
    cases w.params.followText "set-order" <;> simp
  refine codeAny_mono (code_set_led1 (.ref l) (E := E) (Q₁ := fun obj s₁ => obj = .ref s.heap.objs.size ∧ s₁ = { s with heap := s.heap.push { cls := .type "set", dict := none, data := .set #[] 0 (.fresh 0 0 led) } }) ⟨rfl, by rw [← hled]⟩) fun r s₁ hr => ?_
  match r, hr with
  | .error e, hr => exact hr
  | .ok (.ret obj), hr =>
    obtain ⟨rfl, rfl⟩ := hr
    have hS : (s.heap.push { cls := .type "set", dict := none, data := .set #[] 0 (.fresh 0 0 led) }).get? s.heap.objs.size = some { cls := .type "set", dict := none, data := .set #[] 0 (.fresh 0 0 led) } := Heap.get?_push_size _ rfl
    have hT : Shared.TypeIs { s with heap := s.heap.push { cls := .type "set", dict := none, data := .set #[] 0 (.fresh 0 0 led) } } (.ref s.heap.objs.size) "set" := ⟨_, hS, rfl⟩
    have hli := F.called_set.init.lookup; have hbi := F.called_set.init.bind (.ref s.heap.objs.size)
    repeat (any_goals (first | assumption | wp_step))
    have none_of : ∀ b, s.heap.objs.size ≤ b → s.heap.get? b = none := fun b z => by
      cases q : s.heap.get? b with
      | none => rfl
      | some o => exact absurd (Nat.lt_of_lt_of_le (Heap.lt_size q) z) (Nat.lt_irrefl _)
    have val : ∀ (i : Nat) (v : Value), items[i]? = some v → ∃ p, ks[i]? = some p ∧ v = .ref p.1 := fun i v e => by
      rw [← Array.getElem?_toList, hit, List.getElem?_map] at e
      obtain ⟨p, e1, e2⟩ := Option.map_eq_some_iff.mp e
      exact ⟨p, e1, e2.symm⟩
    have hh3 : A.in1.in1.in1.handled = none := by simp [hh]
    have two : ∀ o, l < s.heap.objs.size → l ≠ (s.heap.push { cls := .type "set", dict := none, data := .set #[] 0 (.fresh 0 0 led) }).objs.size ∧ s.heap.objs.size ∉ [(s.heap.push { cls := .type "set", dict := none, data := .set #[] 0 (.fresh 0 0 led) }).objs.size, l] ∧ ((s.heap.push { cls := .type "set", dict := none, data := .set #[] 0 (.fresh 0 0 led) }).push o).get? s.heap.objs.size = some { cls := .type "set", dict := none, data := .set #[] 0 (.fresh 0 0 led) } ∧ (∀ b ∈ [(s.heap.push { cls := .type "set", dict := none, data := .set #[] 0 (.fresh 0 0 led) }).objs.size], s.heap.get? b = none) ∧ ∀ b o', s.heap.get? b = some o' → ((s.heap.push { cls := .type "set", dict := none, data := .set #[] 0 (.fresh 0 0 led) }).push o).get? b = some o' := fun o z => by
      have e1 : (s.heap.push { cls := .type "set", dict := none, data := .set #[] 0 (.fresh 0 0 led) }).objs.size = s.heap.objs.size + 1 := Heap.size_push ..
      refine ⟨by rw [e1]; exact Nat.ne_of_lt (Nat.lt_succ_of_lt z), ?_, Heap.get?_push_of_some _ hS, fun b m => none_of b (by rw [List.mem_singleton.mp m, e1]; exact Nat.le_succ _), fun b o' e => Heap.get?_push_of_some _ (Heap.get?_push_of_some _ e)⟩
      intro m
      simp only [List.mem_cons, List.not_mem_nil, or_false] at m
      rw [e1] at m
      rcases m with m | m
      · exact absurd m (Nat.ne_of_lt (Nat.lt_succ_self _))
      · rw [m] at z
        exact Nat.lt_irrefl _ z
    have fin : ∀ {wr G} {s0 s' : Shared} {L es ep t} {Q2 : Value → Shared → Prop}, Moved (s.heap.objs.size :: wr) G s0 s' → s0.gens = s.gens → s0.drawn = s.drawn → s0.os = s.os → (∀ a b, G a b → b = a) → SN w s'.heap s.heap.objs.size L es ep t → Gets ks items.size L → (∀ b o, s.heap.get? b = some o → s'.heap.get? b = some o) →
        ∃ h' tk L es ep t, s' = { s with heap := h', toks := tk } ∧ SN w h' s.heap.objs.size L es ep t ∧ Gets ks ks.length L ∧ ∀ b o, s.heap.get? b = some o → h'.get? b = some o := fun {wr G s0 s' L es ep t Q2} hm e1 e2 e3 hG hN hg hkp => by
      obtain ⟨h', g', d', tk', os'⟩ := s'
      have a1 : g' = s.gens := (hG _ _ hm.gens).trans e1
      have a2 : d' = s.drawn := hm.drawn.trans e2
      have a3 : os' = s.os := hm.os.trans e3
      subst a1 a2 a3
      rw [many] at hg
      exact ⟨h', tk', L, es, ep, t, rfl, hN, hg, hkp⟩
    refine codeAny_mono (codeAny_call_builtin (R := wants (fun r s₂ => r = .none ∧ ∃ h' tk L es ep t, s₂ = { s with heap := h', toks := tk } ∧ SN w h' s.heap.objs.size L es ep t ∧ Gets ks ks.length L ∧ ∀ b o, s.heap.get? b = some o → h'.get? b = some o) E) F.called_set.init.plain F.entry_set_init (check_set_init_1 hT ?_)) fun r₂ s₂ hr₂ => ?_
    · rcases hl with hl | hl
      · obtain ⟨⟨ocls, odict, odata, oslots⟩, hol, hcl, nl, hdl⟩ := hl
        simp only at hcl hdl; subst hcl hdl
        have hol' : (s.heap.push { cls := .type "set", dict := none, data := .set #[] 0 (.fresh 0 0 led) }).get? l = some _ := Heap.get?_push_of_some _ hol
        have hsls := F.sub_list_set; have hslf := F.sub_list_frozenset
        have hne : (Value.type "list" == Value.type "dict") = false := by decide
        have hl1 : (s.heap.push { cls := .type "set", dict := none, data := .set #[] 0 (.fresh 0 0 led) }).IsList l items := ⟨_, hol', rfl, nl, rfl⟩
        unfold Builtin.«set.__init__» noKeywords Builtin.Frozenset.updateFrom
        generalize hPI : pyIter = PI
        wp_walk
        subst hPI
        refine wpAny_pyIter_list hl1 ?_; refine wpAny_bind (wpAny_runValue ?_)
        obtain ⟨b1, b2, b3, b4, b5⟩ := two { cls := .type "list_iterator", data := .fields #[.ref l, .int 0 0] } (Heap.lt_size hol)
        refine loop_keys ((Walks.list hh3 _ l b1 items).toS) s.heap.objs.size b2 many few val s.heap hk (none_of _ (Nat.le_refl _)) b4 (by show A.units + 3 + 8 < cLine; omega) (items.size - 0) 0 _ (by omega) (Nat.zero_le _) ⟨⟨_, Heap.get?_push_size _ rfl, rfl, rfl⟩, hl1.push _⟩ b5 ⟨[], #[], 0, _, sn_new (led := led) b3 hlw, nofun, by simp, by simp⟩ fun s' L es ep t hm hN hg hkp => ?_
        exact wpAny_pure (wpAny_pure ⟨rfl, fin (Q2 := Q) hm rfl rfl rfl (fun _ _ z => z) hN hg hkp⟩)
      · obtain ⟨⟨ocls, odict, odata, oslots⟩, hol, hcl, nl, hdl⟩ := hl
        simp only at hcl hdl; subst hcl hdl
        have hol' : (s.heap.push { cls := .type "set", dict := none, data := .set #[] 0 (.fresh 0 0 led) }).get? l = some _ := Heap.get?_push_of_some _ hol
        have hsls := F.sub_tuple_set; have hslf := F.sub_tuple_frozenset
        have hne : (Value.type "tuple" == Value.type "dict") = false := by decide
        have hl1 : (s.heap.push { cls := .type "set", dict := none, data := .set #[] 0 (.fresh 0 0 led) }).IsTuple l items := ⟨_, hol', rfl, nl, rfl⟩
        unfold Builtin.«set.__init__» noKeywords Builtin.Frozenset.updateFrom
        generalize hPI : pyIter = PI
        wp_walk
        subst hPI
        refine wpAny_pyIter_tuple hl1 ?_; refine wpAny_bind (wpAny_runValue ?_)
        obtain ⟨b1, b2, b3, b4, b5⟩ := two { cls := .type "tuple_iterator", data := .fields #[.ref l, .int 0 0] } (Heap.lt_size hol)
        refine loop_keys ((Walks.tuple hh3 _ l b1 items).toS) s.heap.objs.size b2 many few val s.heap hk (none_of _ (Nat.le_refl _)) b4 (by show A.units + 3 + 8 < cLine; omega) (items.size - 0) 0 _ (by omega) (Nat.zero_le _) ⟨⟨_, Heap.get?_push_size _ rfl, rfl, rfl⟩, hl1.push _⟩ b5 ⟨[], #[], 0, _, sn_new (led := led) b3 hlw, nofun, by simp, by simp⟩ fun s' L es ep t hm hN hg hkp => ?_
        exact wpAny_pure (wpAny_pure ⟨rfl, fin (Q2 := Q) hm rfl rfl rfl (fun _ _ z => z) hN hg hkp⟩)
    · match r₂, hr₂ with
      | .error e, hr₂ => exact hr₂
      | .ok (.ret r), hr₂ =>
        obtain ⟨rfl, h', tk, L, es, ep, t, rfl, hN, hg, hkp⟩ := hr₂
        repeat (any_goals (first | assumption | wp_step))
        exact h _ _ _ _ _ _ hN hg hkp
      | .ok .next, hr₂ => exact hr₂.elim
      | .ok .brk, hr₂ => exact hr₂.elim
      | .ok .cont, hr₂ => exact hr₂.elim
  | .ok .next, hr => exact hr.elim
  | .ok .brk, hr => exact hr.elim
  | .ok .cont, hr => exact hr.elim
end
end Ks

/-! sorted(a tuple) -/
namespace Ks
open PySem PySem.W PyProof.Rows
section
variable {prog : Program} {w : World} {A : Around} {E : Value → Shared → Prop} {s : Shared}
theorem gather_tup {l : Addr} {vs : List Value} {Q : List Value → Shared → Prop} (hl : s.heap.IsTuple l vs.toArray)
    (h : Q vs { s with heap := (s.heap.push (seqObj "list" #[] 0)).update s.heap.objs.size (Obj.mapSeq (· ++ vs.toArray)) }) (hz : vs.length ≤ sizeLine) : wpAny (model prog w) A (collect (.ref l)) Q E s := by
  obtain ⟨o, ho, hc, n, hd⟩ := id hl
  unfold collect
  refine wpAny_bind (wpAny_runValue (codeAny_builtin entry_proto_collect' (show wpAny _ _ (do again (.builtin "list.__iadd__" ⟨[← newList [], .ref l], []⟩)) _ _ s from ?_)))
  refine wpAny_bind (wpAny_newList (wpAny_pure ⟨Code.quiet_builtin _ (by decide +kernel), codeAny_builtin entry_list_iadd' (show wpAny _ _ (Builtin.List.listExtendWith (.ref s.heap.objs.size) (.ref l) (.ref s.heap.objs.size)) _ _ { s with heap := s.heap.push (seqObj "list" #[] 0) } from ?_)⟩))
  have hl2 : (s.heap.push (seqObj "list" #[] 0)).get? l = some o := Heap.get?_push_of_some _ ho
  have h0 : (s.heap.push (seqObj "list" #[] 0)).get? s.heap.objs.size = some (seqObj "list" #[] 0) := Heap.get?_push_size _ rfl
  unfold Builtin.List.listExtendWith
  refine wpAny_bind (wpAny_typeOf (T := "tuple") ⟨o, hl2, hc⟩ ?_)
  rw [if_pos (by rw [show (Value.type "tuple" == Value.type "tuple") = true from rfl, Bool.or_true])]
  refine wpAny_bind (listItems_at hl2 hd (wpAny_bind (listItems_at (xs := #[]) (n := 0) h0 rfl ?_)))
  rw [if_neg (by simp)]
  refine wpAny_bind (listUpdate_at (xs := #[]) (n := 0) h0 rfl (wpAny_pure ?_) (Nat.zero_le _) (by simpa using Nat.le_succ_of_le hz))
  refine wpAny_bind (wpAny_load (get?_update_seq h0 _) ?_)
  exact wpAny_pure (by simpa using h)
theorem sorted_tup_by {l : Addr} {vs : List Value} {Q : Value → Shared → Prop} (hl : s.heap.IsTuple l vs.toArray) (hz : vs.length ≤ sizeLine)
    (body : ∀ E' : Value → Shared → Prop, wpAny (model prog w) A.in1.in1 (Builtin.«list.sort» ⟨[.ref (s.heap.objs.size + 1)], []⟩) (fun f s' => f = .done (.ret .none) ∧ Q (.ref (s.heap.objs.size + 1)) s') E' { s with heap := copyHeap s.heap vs }) :
    wpAny (model prog w) A (call (.builtin "sorted") [.ref l]) Q E s := by
  refine call_function_entry_kw kind_sorted plain_sorted entry_sorted (args_sorted1 _) ?_
  unfold Builtin.«sorted»
  refine wpAny_bind (m := checkCount "sorted" 1 1 _) (wpAny_pure (wpAny_bind (gather_tup hl (wpAny_bind (wpAny_newList ?_ hz)) hz)))
  have two : ((s.heap.push (seqObj "list" #[] 0)).update s.heap.objs.size (Obj.mapSeq (· ++ vs.toArray))).objs.size = s.heap.objs.size + 1 := by rw [Heap.size_update, size_push']
  show wpAny _ _ _ _ _ { s with heap := copyHeap s.heap vs }
  rw [two]
  refine wpAny_bind (wpAny_holding (wpAny_call_entry_kw slot_list_sort ⟨_, copyHeap_at s.heap vs, rfl⟩ entry_list_sort ?_ (args_list_sort _)))
  show wpAny (model prog w) A.in1.in1 (Builtin.«list.sort» ⟨[.ref (s.heap.objs.size + 1)], []⟩) _ _ _
  refine wpAny_mono (body _) (fun f s' hf => ?_) fun _ _ e => e
  obtain ⟨rfl, hq⟩ := hf
  exact ⟨_, rfl, wpAny_pure ⟨_, rfl, hq⟩⟩
theorem sorted_tup {α : Type} {R : Value → α → Prop} {bs : List α} {enc : α → PyData} {l : Addr} {vs : List Value} {Q : Value → Shared → Prop} (hl : s.heap.IsTuple l vs.toArray) (e : EachIs R vs bs) (er : EachIs (fun v b => ∃ as, Reads s.heap v (enc b) as) vs bs) (hal : AllAlike (bs.map enc)) (hk : Sortable (bs.map enc)) (hL : bs.length ≤ sizeLine)
    (hu : ∀ b, b ∈ bs → A.units + 2 + (enc b).depth < cLine) (h : ∀ out, out.length = bs.length → EachIs R out (bs.mergeSort (dataLe false enc)) → Q (.ref (s.heap.objs.size + 1)) { s with heap := sortedAll s.heap vs (List.toArray out) }) :
    wpAny (model prog w) A (call (.builtin "sorted") [.ref l]) Q E s := by
  have er' : EachIs (fun v b => ∃ as, Reads (sortingHeap (copyHeap s.heap vs) (s.heap.objs.size + 1) vs) v (enc b) as) vs bs := er.mono fun _ _ ⟨as, r⟩ => ⟨as, PyProof.Rows.Reads.keeps (fun _ _ => sorting_copy_old) r⟩
  have hz : vs.length ≤ sizeLine := by rw [e.length]; exact hL
  have S := SortsAt.data (prog := prog) (w := w) (A := A.in1.in1) (s := { s with heap := sortingHeap (copyHeap s.heap vs) (s.heap.objs.size + 1) vs }) (each_map (R := fun v d => ∃ as, Reads (sortingHeap (copyHeap s.heap vs) (s.heap.objs.size + 1) vs) v d as) enc er') hal hk (bound_map hu)
  refine sorted_tup_by hl hz fun E' => list_sort_vals (s := { s with heap := copyHeap s.heap vs }) (copyHeap_at s.heap vs) S hz ⟨rfl, ?_⟩
  exact h _ (by rw [sortVals_length false rfl]; exact e.length) (sortVals_data false e er' hal)
end
end Ks

/-! whether a set has a key -/
namespace Ks
open PySem PySem.Spec PyProof.Rows L2
theorem find_succ (a : Addr) (x : Value) (h : Int) (fuel : Nat) : setFindIn a x h (fuel + 1) = (do
    let (es, _, _) ← setState a
    if byScan x es then
      rule "set.find.by-scan"
      match ← setScan a x h false es with
      | .found i => return some i
      | .absent => return none
      | .anew => return ← setFindIn a x h fuel
    match ← setSearch a x h with
    | .there i => return i
    | .free .. => return none) := by rfl
section
variable {P : Program} {w : World} {A : Around} {E : Value → Shared → Prop} {s : Shared} {a : Addr} {L : List (Addr × NestedKey)} {es : Array (Int × Value)} {ep : Nat} {t : SetTable}
theorem find_key (R : SN w s.heap a L es ep t) (hL : ∀ p ∈ L, KeyAt s.heap p.2 p.1) {x : Addr} {k : NestedKey} (hx : KeyAt s.heap k x) (hu : A.units + 8 < cLine) {Q : Option Nat → Shared → Prop} (hQ : ∀ y, y.isSome = decide (k ∈ L.map (·.2)) → Q y s) :
    wpAny (model P w) A (setFind a (.ref x) (k.hash w)) Q E s := by
  obtain ⟨o, ho, hex, hd⟩ := R.ob
  unfold setFind
  rw [show (100000 : Nat) = 99999 + 1 from rfl, find_succ]
  refine wpAny_bind (wpAny_setState_of ho hd R.fits ?_)
  dsimp only
  refine wp_if_neg (by simp [byScan, Value.scannable]) ?_
  try refine wpAny_bind (wpAny_pure ?_)
  refine wpAny_bind (search_key R hL hx hu false (fun y hm hy => ?_) fun c hm _ _ => ?_)
  · exact wpAny_pure (hQ y (by rw [hy rfl, decide_eq_true hm]))
  · exact wpAny_pure (hQ none (by rw [decide_eq_false hm]; rfl))
theorem has_key (R : SN w s.heap a L es ep t) (hL : ∀ p ∈ L, KeyAt s.heap p.2 p.1) {x : Addr} {k : NestedKey} (hx : KeyAt s.heap k x) (hu : A.units + 16 < cLine) {Q : Bool → Shared → Prop} (hQ : Q (decide (k ∈ L.map (·.2))) { s with toks := s.toks + k.draws }) :
    wpAny (model P w) A (contains (.ref a) (.ref x)) Q E s := by
  have hT : s.TypeIs (.ref a) "set" := let ⟨o, ho, hc, _⟩ := R.ob; ⟨o, ho, hc.1⟩
  unfold contains
  try with_reducible refine wpAny_holding ?_
  refine wpAny_bind (wpAny_specialOf hT F.slot_set_contains.lookup (show wpAny _ _ (if (some (Value.builtin "set.__contains__") == some Value.none) = true then _ else _) _ E s from ?_))
  rw [if_neg (by rw [beq_builtin_none]; exact Bool.false_ne_true)]
  refine wpAny_bind (wpAny_callSpecialUnlessNone?_slot (name := Str.ofString "__contains__") hT F.slot_set_contains (wpAny_call_entry F.slot_set_contains hT entry_set_contains ?_ (F.args_set_contains_2 _ _)))
  unfold Builtin.«frozenset.__contains__» Builtin.Frozenset.oneOther Builtin.Frozenset.addrOf Builtin.Frozenset.withSetAsKey setContains
  simp only [List.isEmpty_nil, bind_assoc]
  refine wpAny_bind (wpAny_pure ?_); try dsimp only
  refine wpAny_bind (wpAny_pure ?_); try dsimp only
  refine wpAny_bind (wpAny_tryCatch (wpAny_holding (wpAny_bind ((nestedKind P w).pyHash (show _ + 8 < cLine from ?_) hx ?_))))
  · show A.units + 1 + 8 < cLine
    omega
  refine wpAny_bind (find_key (s := { s with toks := s.toks + k.draws }) R hL hx (show A.units + 1 + 8 < cLine by omega) fun y hy => wpAny_pure ?_)
  show wpAny _ _ (ret (Value.bool y.isSome)) _ _ _
  rw [hy]
  exact wpAny_pure ⟨_, rfl, wpAny_truthy_bool hQ⟩
end
end Ks

/-! enumerate(a tuple) -/
namespace Ks
open PySem PySem.Spec PyProof.Rows L2
section
open AutoSeq1 (wpAny_loadPart')
theorem made_of_tup (l : Addr) (items : Array Value) (n : Nat) (dct : Option Addr) (sl : Array (Option Value)) :
    Meets (Builtin.«enumerate.__new__» ⟨[.type "enumerate", .ref l], []⟩) (fun _ R s => s.heap.get? l = some { cls := .type "tuple", dict := dct, data := .seq items n, slots := sl } ∧
      R (.ok (.ret (.ref (s.heap.push { cls := .type "tuple_iterator", data := .fields #[.ref l, .int 0 0] }).objs.size)))
        { s with heap := (s.heap.push { cls := .type "tuple_iterator", data := .fields #[.ref l, .int 0 0] }).push { cls := .type "enumerate", data := .fields #[.none, .bool false, .ref s.heap.objs.size, rawInt 0, .none, .none] } }) :=
  .of_wp fun prog w A R s h => by
    obtain ⟨hp, g, d, tk, os⟩ := s
    obtain ⟨hl, h⟩ := h
    have hsub := sub_enumerate
    have hT : Heap.IsTuple (Shared.heap ⟨hp, g, d, tk, os⟩) l items := ⟨_, hl, rfl, n, rfl⟩
    wp_walk using wpAny_loadPart' hl
    refine wpAny_stack_any fun st => wpAny_pure ?_
    split
    · rename_i c _ _ _ _ _
      cases (c == Value.type "enumerate") <;> wp_walk using wpAny_loadPart' hl, wpAny_pyIter_tuple hT <;> exact ⟨_, rfl, h⟩
    · wp_walk using wpAny_loadPart' hl, wpAny_pyIter_tuple hT
      exact ⟨_, rfl, h⟩
end
section
variable {prog : Program} {w : World} {A : Around} {E : Value → Shared → Prop} {s : Shared}
theorem enum_tup {l : Addr} {items : Array Value} {Q : Value → Shared → Prop} (hL : s.heap.IsTuple l items)
    (h : ∀ h', IsEnum h' (s.heap.objs.size + 1) s.heap.objs.size 0 .none → h'.IsTupleIter s.heap.objs.size l 0 → (∀ b o, s.heap.get? b = some o → h'.get? b = some o) → Q (.ref (s.heap.objs.size + 1)) { s with heap := h' }) :
    wpAny (model prog w) A (call (.type "enumerate") [.ref l]) Q E s := by
  obtain ⟨⟨c, dct, dt, sl⟩, hl, hc, n, hd⟩ := hL
  obtain rfl : c = .type "tuple" := hc
  obtain rfl : dt = .seq items n := hd
  refine callType_new F.called_enumerate (by decide) (F.typeCall_enumerate_1 _) (F.newCall_enumerate_1 _) (fun obj => F.args_object_init_2 obj _) F.entry_enumerate_new (made_of_tup l items n dct sl) ⟨hl, ?_⟩
  have hz : (s.heap.push { cls := .type "tuple_iterator", data := .fields #[.ref l, .int 0 0] }).objs.size = s.heap.objs.size + 1 := Heap.size_push ..
  show _ ∧ _
  rw [hz]
  have he := Heap.get?_push_size (s.heap.push { cls := .type "tuple_iterator", data := .fields #[.ref l, .int 0 0] }) (o := { cls := .type "enumerate", data := .fields #[.none, .bool false, .ref s.heap.objs.size, rawInt 0, .none, .none] }) rfl
  rw [hz] at he
  exact ⟨⟨_, he, rfl⟩, h _ he ⟨_, Heap.get?_push_of_some _ (Heap.get?_push_size _ rfl), rfl, rfl⟩ fun b o x => Heap.get?_push_of_some _ (Heap.get?_push_of_some _ x)⟩
end
def Ett (K : PySem.W.Frag) (a : Addr) : It :=
  ⟨fun i H => ∃ (xs : List V) (x : V), SqT K H a xs ∧ xs[i]? = some x, fun i H v H' => ∃ T x, v = .ref T ∧ H T = none ∧ H' = upd H T (.tup [.int (i : Nat), x]) ∧ ∀ xs, SqT K H a xs → xs[i]? = some x, fun i H => ∃ xs : List V, SqT K H a xs ∧ xs.length ≤ i⟩
theorem turn_ett {P : Program} {w : World} {K : PySem.W.Frag} {elts : List Expr} {kk : Nat} {tpos : Pos} (a e it : Addr) (hne : e ≠ it) (hae : e ≠ a) (hai : a ≠ it) :
    Turn P w K (.Tuple elts kk tpos) (Ett K a) [e, it] e (fun i h => (∃ old, IsEnum h e it ((i : Nat) : Int) old) ∧ h.IsTupleIter it a i) where
  mem := by simp
  obj := fun i h st b hb => by
    obtain ⟨⟨old, he⟩, ⟨o, ho, hc, hd⟩⟩ := st
    simp only [List.mem_cons, List.not_mem_nil, or_false] at hb
    rcases hb with rfl | rfl
    · exact ⟨_, he, fun v q => nomatch q⟩
    · exact ⟨o, ho, fun v q => by rw [hd] at q; cases q⟩
  keep := fun i h h' st k => let ⟨⟨old, he⟩, hi⟩ := st; ⟨⟨old, k e (by simp) _ he⟩, hi.at fun o q => k it (by simp) o q⟩
  item := by
    intro X hP hw hK hc i pins s σ H E I hf st hg
    subst hP hw hK
    obtain ⟨⟨old, he⟩, hit⟩ := st
    obtain ⟨xs, x, hq, hx⟩ := hg
    obtain ⟨its, rv, p, hz⟩ := I.tuple hq
    obtain ⟨u, hu, ru⟩ := rv.get hx
    have hel : e < s.heap.objs.size := Heap.lt_size he
    have hil : it < s.heap.objs.size := by
      obtain ⟨_, q, _⟩ := hit
      exact Heap.lt_size q
    have hlt : i < its.toArray.size := by
      have := (List.getElem?_eq_some_iff.mp hu).1
      simpa using this
    refine wpAny_pyNext_enum_itemD (Draws.tuple (by simpa using I.ok.hd hc) it a hai its.toArray) he ⟨hit, p⟩ hlt hne (by simp [hne, hae]) fun v h' tk hv ho hit' hT hsz hk => ?_
    have ev : v = u := by
      have h1 : its[i]? = some v := by simpa using hv
      rw [hu] at h1
      exact (Option.some.inj h1).symm
    subst ev
    refine ⟨_, rfl, wpAny_letOwnedTupleGo_enum (s := { s with heap := h', toks := tk + 1 }) ho fun h'' he' sb => ?_⟩
    have hT2 : h''.get? s.heap.objs.size = some { cls := .type "tuple", data := .seq #[.int i tk, v] } := (sb.2 _ (Nat.ne_of_gt hel)).trans hT
    have new : ObjOk X.prog X.w (upd H s.heap.objs.size (.tup [.int (i : Nat), x])) h'' s.heap.objs.size (.tup [.int (i : Nat), x]) := ⟨show 2 ≤ sizeLine by decide, [.int i tk, v], .cons ⟨_, rfl⟩ (.cons ru .nil), ⟨_, hT2, rfl, _, rfl⟩⟩
    have I1 : Inv X pins σ (upd H s.heap.objs.size (.tup [.int (i : Nat), x])) { s with heap := h'', toks := tk + 1 } :=
      I.turnedNew (ch := [e, it]) (fun b ob hb q => (sb.2 b fun z => hb (by simp [z])).trans (hk b ob (fun z => hb (by simp [z])) (fun z => hb (by simp [z])) q)) hf (Nat.le_refl _) new
    refine ⟨.ref s.heap.objs.size, _, I1, rfl, ⟨_, x, rfl, I.hok.fresh (Nat.le_refl _), rfl, fun ys hy => by rw [I.tuple_inj hy hq]; exact hx⟩, ⟨⟨v, ?_⟩, hit'.1.at fun o q => (sb.2 it (Ne.symm hne)).trans q⟩, fun b hb => ?_⟩
    · rw [show ((i + 1 : Nat) : Int) = (i : Int) + 1 by omega]
      exact he'
    · simp only [List.mem_cons, List.not_mem_nil, or_false] at hb
      have hb' : b < s.heap.objs.size := by rcases hb with rfl | rfl <;> assumption
      rw [upd_ne (Nat.ne_of_lt hb')]
      exact (hf b (by simpa using hb)).1
  done := by
    intro X hP hw hK hc i pins s σ H E I hf st hg
    subst hP hw hK
    obtain ⟨⟨old, he⟩, hit⟩ := st
    obtain ⟨xs, hq, hx⟩ := hg
    obtain ⟨its, rv, p, hz⟩ := I.tuple hq
    obtain ⟨f0, f1, f2, f3, f4, f5⟩ := hf it (by simp)
    have hl := rv.length
    have over : its.toArray[i]? = none := by simp; omega
    have hT : s.TypeIs (.ref e) "enumerate" := ⟨_, he, rfl⟩
    unfold pyNext
    refine wpAny_bind (wpAny_attempt (wpAny_callSpecial?_slot (name := Str.ofString "__next__") hT F.slot_enumerate_next (wpAny_call_entry F.slot_enumerate_next hT F.entry_enumerate_next ?_ (F.args_enumerate_next_1 _))))
    show wpAny _ _ (field (.ref e) 2 >>= _) _ _ _
    refine wpAny_bind (wpAny_field he rfl (x := .ref it) rfl (wpAny_bind (wpAny_nextOf_tuple_end (by simpa using I.ok.hd hc) hit p over fun h' x eb hx' => ?_)))
    obtain ⟨o, ho, hc'⟩ := hx'
    refine wpAny_bind (wpAny_isInstance (T := "StopIteration") (b := true) ⟨o, ho, hc'⟩ isSubtype_stop ?_)
    exact wpAny_pure ⟨rfl, I.turned (t' := s.toks) (fun b o hb q => eb b o hb q) f0 f1 f3 f4 f5⟩
  self := fun A i s Q E st h => let ⟨⟨_, he⟩, _⟩ := st; wpAny_pyIter_enum he h
def iEnT (K : PySem.W.Frag) (ta : TA) : TI := fun σ H R => ta σ H fun vs H1 => ∃ a xs, vs = [.ref a] ∧ SqT K H1 a xs ∧ R (Ett K a) H1
theorem pi_enT {X : Cx} {e : Expr} {ta : TA} {p pos tpos : Pos} {elts : List Expr} {kk : Nat} (hg : Gl X "enumerate") (hm : X.mg "enumerate" = none) (ha : PA X [e] ta) (hs : starEach [e] X.env = [(false, eval e X.env)] := by rfl) :
    PI X (.Tuple elts kk tpos) (.Call (.Name "enumerate" p) [e] [] pos) (iEnT X.K ta) := by
  refine ⟨fun pins s σ H R I h => Call_ (ld_blt I hg hm boot_enumerate (PyProof.Rows.callWith_type1 (thn (ha.run pos pins s σ H _ I h) fun us s1 ⟨vs, H1, I1, r1, q1⟩ => ?_) hs rfl))⟩
  obtain ⟨a, xs, rfl, hq, q⟩ := q1
  cases r1 with
  | cons r rr =>
    cases rr
    cases r
    obtain ⟨its, rv, p', hz⟩ := I1.tuple hq
    have hal : a < s1.heap.objs.size := by
      obtain ⟨o, ho, _⟩ := p'
      exact Heap.lt_size ho
    refine enum_tup p' fun h' he hit hk => wpAny_pyIter_enum he ?_
    refine ⟨s1.heap.objs.size + 1, [s1.heap.objs.size + 1, s1.heap.objs.size], _, _, H1, rfl, I1.kept (t' := s1.toks) hk, turn_ett a (s1.heap.objs.size + 1) s1.heap.objs.size (Nat.succ_ne_self _) (Nat.ne_of_gt (Nat.lt_succ_of_lt hal)) (Nat.ne_of_lt hal), ⟨⟨.none, he⟩, hit⟩, fun b hb => ?_, q⟩
    simp only [List.mem_cons, List.not_mem_nil, or_false] at hb
    have hle : s1.heap.objs.size ≤ b := by
      rcases hb with rfl | rfl
      · exact Nat.le_succ _
      · exact Nat.le_refl _
    exact I1.fpOk hle (I1.hok.fresh hle)
end Ks

/-! a tuple the other way round -/
namespace Ks
open PySem PySem.Spec PyProof.Rows L2 HT
section
variable {prog : Program} {w : World} {A : Around} {E : Value → Shared → Prop} {s : Shared}
theorem back_steps {sl : Addr} {vl vu vs : Value} {n : Nat} {Q : Int × Int × Nat → Shared → Prop} (hs : s.heap.IsSliceOf sl vl vu vs) (pl : IsPart vl none) (pu : IsPart vu none) (ps : IsPart vs (some (-1)))
    (h : Q ((n : Int) - 1, -1, n) s) : wpAny (model prog w) A (Builtin.Slice.sliceApplied (.ref sl) (pure (n : Int))) Q E s := by
  obtain ⟨os, hos, hcs, hds⟩ := id hs
  unfold Builtin.Slice.sliceApplied Builtin.Slice.sliceFields
  refine wpAny_bind (wpAny_bind (wpAny_field hos hds (x := vl) rfl (wpAny_bind (wpAny_field hos hds (x := vu) rfl (wpAny_bind (wpAny_field hos hds (x := vs) rfl (wpAny_pure ?_)))))))
  refine wpAny_bind (slicePart_ ps ?_)
  show wpAny _ _ (if ((-1 : Int) == 0) = true then _ else _) _ _ s
  rw [if_neg (by decide)]
  refine wpAny_bind (slicePart_ pl (wpAny_bind (slicePart_ pu (wpAny_bind (wpAny_pure ?_)))))
  have e : Builtin.Slice.sliceAdjust none none (-1) (n : Int) = ((n : Int) - 1, -1) := rfl
  show wpAny _ _ (match Builtin.Slice.sliceAdjust none none (-1) (n : Int) with | (lo, hi) => pure (lo, (-1 : Int), Builtin.Slice.slicePlaces lo hi (-1))) _ _ s
  rw [e]
  have e2 : Builtin.Slice.slicePlaces ((n : Int) - 1) (-1) (-1) = n := by
    unfold Builtin.Slice.slicePlaces
    simp
    omega
  show wpAny _ _ (pure ((n : Int) - 1, (-1 : Int), Builtin.Slice.slicePlaces ((n : Int) - 1) (-1) (-1))) _ _ s
  rw [e2]
  exact wpAny_pure h
theorem filterMap_same {α β : Type} {f g : α → Option β} : ∀ {l : List α}, (∀ x ∈ l, f x = g x) → l.filterMap f = l.filterMap g
  | [], _ => rfl
  | x :: l, h => by
    rw [List.filterMap_cons, List.filterMap_cons, h x (by simp), filterMap_same fun y m => h y (List.mem_cons_of_mem _ m)]
theorem back_pick (xs : Array Value) : (List.range xs.size).filterMap (fun (k : Nat) => xs[(((xs.size : Int) - 1) + (k : Int) * (-1)).toNat]?) = xs.toList.reverse := by
  have a := range_all xs.toList.reverse
  rw [List.length_reverse, Array.length_toList] at a
  refine Eq.trans (filterMap_same fun k hk => ?_) a
  rw [List.mem_range] at hk
  rw [List.getElem?_reverse (by simpa using hk), Array.getElem?_toList, Array.length_toList, show (((xs.size : Int) - 1) + (k : Int) * (-1)).toNat = xs.size - 1 - k by omega]
theorem get_back {t sl : Addr} {items : Array Value} {vl vu vs : Value} {Q : Value → Shared → Prop} (ht : IsTup s.heap t items) (hs : s.heap.IsSliceOf sl vl vu vs) (pl : IsPart vl none) (pu : IsPart vu none) (ps : IsPart vs (some (-1)))
    (h : Q (.ref s.heap.objs.size) { s with heap := s.heap.push { cls := .type "tuple", data := .seq items.toList.reverse.toArray } }) (hz : items.size ≤ sizeLine) : wpAny (model prog w) A (getItem (.ref t) (.ref sl)) Q E s := by
  have fits : sizeOk (.seq items.toList.reverse.toArray) := by
    show items.toList.reverse.toArray.size ≤ sizeLine
    simpa using hz
  obtain ⟨os, hos, hcs, hds⟩ := id hs
  have hTs : s.TypeIs (.ref sl) "slice" := ⟨os, hos, hcs⟩
  unfold getItem
  try with_reducible refine wpAny_holding ?_
  first | refine wpAny_bind (wpAny_pure ?_) | skip
  refine wpAny_bind (wpAny_sequenceKey ht.typeIs (by decide) (wpAny_bind (wpAny_callSpecial?_slot (name := Str.ofString "__getitem__") ht.typeIs PyProof.Rows.slot_tuple_getitem (wpAny_call_entry PyProof.Rows.slot_tuple_getitem ht.typeIs entry_tuple_getitem ?_ (args_tuple_getitem _ _)))))
  show wpAny _ _ (Builtin.Tuple.tupleItemsOf (.ref t) >>= _) _ _ s
  refine wpAny_bind (tupleItemsOf_ ht (wpAny_bind (wpAny_typeOf hTs ?_)))
  rw [if_pos (by decide)]
  refine wpAny_bind (back_steps hs pl pu ps ?_)
  show wpAny _ _ (if (((items.size : Int) - 1) == 0 && (-1 : Int) == 1 && items.size == items.size) = true then _ else _) _ _ s
  rw [if_neg (by rw [show ((-1 : Int) == 1) = false from rfl, Bool.and_false, Bool.false_and]; exact Bool.false_ne_true), back_pick]
  first
    | exact wpAny_bind (m := Builtin.Tuple.tupleExact _) (wpAny_newObj_type (wpAny_pure ⟨_, rfl, wpAny_pure h⟩) fits)
    | exact wpAny_bind (m := Builtin.Tuple.tupleExact _) (wpAny_newObj_type (wpAny_bind (wpAny_pure (wpAny_pure ⟨_, rfl, wpAny_pure h⟩))) fits)
    | exact wpAny_bind (wpAny_bind (m := Builtin.Tuple.tupleExact _) (wpAny_newObj_type (wpAny_pure (wpAny_pure ⟨_, rfl, wpAny_pure h⟩)) fits))
    | exact wpAny_bind (wpAny_bind (m := Builtin.Tuple.tupleExact _) (wpAny_newObj_type (wpAny_pure ⟨_, rfl, wpAny_pure h⟩) fits))
end
section
variable {X : Cx}
def tRevT (K : PySem.W.Frag) (te : TE) : TE := fun σ H Q => te σ H fun x H1 => ∃ a xs, x = .ref a ∧ SqT K H1 a xs ∧ ∀ p, H1 p = none → Q (.ref p) (upd H1 p (.tup xs.reverse))
theorem pe_revT {e : Expr} {te : TE} {k : Nat} {p1 p2 p3 pos : Pos} (he : PE X e te) : PE X (.Subscript e (.Slice none none (some (.UnaryOp .USub (.Constant (.int 1) k p1) p2)) p3) pos) (tRevT X.K te) := by
  refine ⟨fun pins s σ H Q I h => Subscript_ (thn (he.run pins s σ H _ I h) fun v s1 ⟨x, H1, I1, r1, q1⟩ => ?_)⟩
  obtain ⟨a, xs, rfl, hx, q⟩ := q1
  cases r1
  have hst : PO X (some (.UnaryOp .USub (.Constant (.int 1) k p1) p2)) (tPart (tUn (rU fun i => .int (-i)) (tC (.int 1)))) := po_some (pe_un un_neg pe_int)
  refine wpAny_Slice (thn (po_none.run pins s1 σ H1 (fun o H2 => o = none ∧ H2 = H1) I1 ⟨rfl, rfl⟩) fun vl s2 ⟨l, H2, I2, pl, el, e2⟩ => ?_)
  subst el e2
  refine thn (po_none.run pins s2 σ H2 (fun o H3 => o = none ∧ H3 = H2) I2 ⟨rfl, rfl⟩) fun vu s3 ⟨u, H3, I3, pu, eu, e3⟩ => ?_
  subst eu e3
  refine thn (hst.run pins s3 σ H3 (fun o H4 => o = some (-1) ∧ H4 = H3) I3 ⟨1, rfl, -1, rfl, rfl, rfl⟩) fun vs s4 ⟨o, H4, I4, ps, eo, e4⟩ => ?_
  subst eo e4
  have I5 : Inv X pins σ H4 { s4 with heap := s4.heap.push { cls := .type "slice", data := .fields #[vl, vu, vs] } } := I4.kept (t' := s4.toks) fun b ob q => Heap.get?_push_of_some _ q
  obtain ⟨its, r, ht, hz⟩ := I5.tuple hx
  have hlen := r.length
  refine tail_any (ops := [.ref a, .ref s4.heap.objs.size]) ht.typeIs PyProof.Rows.slot_tuple_getitem.lookup ?_ (by with_unfolding_all rfl)
  refine get_back ht (Heap.IsSliceOf.new _ vl vu vs) pl pu ps ?_ (by rw [List.size_toArray]; omega)
  refine ⟨.ref _, _, I5.laid (t' := s4.toks) (o := .tup xs.reverse) (fun b ob q => Heap.get?_push_of_some _ q) (Nat.le_refl _) ?_, rfl, q _ (I5.hok.fresh (Nat.le_refl _))⟩
  exact ⟨by rw [List.length_reverse]; exact hz, _, r.reverse, IsTup.new _ _⟩
end
end Ks

/-! {k: v for target in iter if ..}, the keys tuples of ints and texts -/
namespace Kd
open PySem PySem.Spec PyProof.Rows L2
section
variable {X : Cx}
/-- one entry: the key, the tuple that is it, the value -/
abbrev Ent := NestedKey × Addr × V
def EntRel (x : Ent) (y : NestedKey × Addr × Value) : Prop := x.1 = y.1 ∧ x.2.1 = y.2.1 ∧ RelV x.2.2 y.2.2
def DicO (P : Program) (w : World) (a : Addr) (xs : List Ent) : HO := .ext fun h => (xs.length ≤ sizeLine ∧ (a == sysModules) = false) ∧ ∃ ys, Paired EntRel xs ys ∧ ∃ o es ep, h.get? a = some o ∧ o.ExactDict ∧ o.data = .dict es ep ∧ es.toList = ys.map (entryOfKey (nestedKind P w)) ∧ (ys.map (·.1)).Nodup
theorem dicO_ok {P : Program} {w : World} {H : Hp} {h : Heap} {a : Addr} {xs : List Ent} (hz : xs.length ≤ sizeLine) (hs : (a == sysModules) = false) {ys : List (NestedKey × Addr × Value)} (r : Paired EntRel xs ys) {o : Obj} {es : Array DictEntry} {ep : Nat} (ho : h.get? a = some o) (h1 : o.ExactDict) (h2 : o.data = .dict es ep) (h3 : es.toList = ys.map (entryOfKey (nestedKind P w))) (h4 : (ys.map (·.1)).Nodup) : ObjOk P w H h a (DicO P w a xs) :=
  ⟨⟨⟨hz, hs⟩, ys, r, o, es, ep, ho, h1, h2, h3, h4⟩, ⟨o, ho⟩, fun h1 h2 ⟨z, ys, r, o, es, ep, ho, q⟩ k => ⟨z, ys, r, o, es, ep, k o ho, q⟩⟩
/-- what the dict holds at a key -/
def entV (xs : List Ent) (k : NestedKey) : Option V := (xs.find? fun x => decide (x.1 = k)).map (·.2.2)
def entPut (xs : List Ent) (k : NestedKey) (b : Addr) (v : V) : List Ent := if (entV xs k).isSome then xs.map fun x => if x.1 = k then (x.1, x.2.1, v) else x else xs ++ [(k, b, v)]
theorem ent_at {k : NestedKey} : ∀ {xs : List Ent} {ys : List (NestedKey × Addr × Value)}, Paired EntRel xs ys → (entV xs k = none ∧ atKey ys k = none) ∨ ∃ v p, entV xs k = some v ∧ atKey ys k = some p ∧ RelV v p.2
  | [], _, .nil => .inl ⟨rfl, rfl⟩
  | x :: xs, _, .cons (b := y) h t => by
    obtain ⟨e1, e2, e3⟩ := h
    unfold entV atKey
    by_cases c : x.1 = k
    · rw [List.find?_cons_of_pos (by simpa using c), List.find?_cons_of_pos (by rw [← e1]; simpa using c)]
      exact .inr ⟨_, _, rfl, rfl, e3⟩
    · rw [List.find?_cons_of_neg (by simpa using c), List.find?_cons_of_neg (by rw [← e1]; simpa using c)]
      exact ent_at t
theorem ent_map {k : NestedKey} {v : V} {r : Value} (rv : RelV v r) : ∀ {xs : List Ent} {ys : List (NestedKey × Addr × Value)}, Paired EntRel xs ys → Paired EntRel (xs.map fun x => if x.1 = k then (x.1, x.2.1, v) else x) (ys.map (putAt k r))
  | [], _, .nil => .nil
  | x :: xs, _, .cons (b := y) h t => by
    refine .cons ?_ (ent_map rv t)
    obtain ⟨e1, e2, e3⟩ := h
    show EntRel (if x.1 = k then (x.1, x.2.1, v) else x) (if y.1 = k then (y.1, y.2.1, r) else y)
    by_cases c : x.1 = k
    · rw [if_pos c, if_pos (by rw [← e1]; exact c)]
      exact ⟨e1, e2, rv⟩
    · rw [if_neg c, if_neg (by rw [← e1]; exact c)]
      exact ⟨e1, e2, e3⟩
theorem ent_put {k : NestedKey} {b : Addr} {v : V} {r : Value} {xs : List Ent} {ys : List (NestedKey × Addr × Value)} (h : Paired EntRel xs ys) (rv : RelV v r) : Paired EntRel (entPut xs k b v) (storedH ys k b r) := by
  unfold entPut storedH
  rcases ent_at (k := k) h with ⟨e1, e2⟩ | ⟨z, p, e1, e2, _⟩
  · rw [e1, e2]
    exact Paired.snoc h ⟨rfl, rfl, rv⟩
  · rw [e1, e2]
    exact ent_map rv h
theorem entPut_len (xs : List Ent) (k : NestedKey) (b : Addr) (v : V) : (entPut xs k b v).length ≤ xs.length + 1 := by
  unfold entPut
  split
  · rw [List.length_map]
    omega
  · rw [List.length_append]
    exact Nat.le_refl _
theorem dic_of {pins : List (Addr × Obj)} {σ : L2.St} {H : Hp} {s : Shared} {a : Addr} {xs : List Ent} (I : Inv X pins σ H s) (e : H a = some (DicO X.prog X.w a xs)) (hk : ∀ x ∈ xs, (nestedKind X.prog X.w).is s.heap x.1 x.2.1) : xs.length ≤ sizeLine ∧ (a == sysModules) = false ∧ ∃ ys, Paired EntRel xs ys ∧ s.heap.DictOfH (nestedKind X.prog X.w) a ys := by
  obtain ⟨⟨z1, z2⟩, ys, r, o, es, ep, ho, h1, h2, h3, h4⟩ := (I.hok a _ e).1
  refine ⟨z1, z2, ys, r, o, es, ep, ho, h1, h2, h3, ?_, h4⟩
  have all : ∀ {l : List Ent} {m : List (NestedKey × Addr × Value)}, Paired EntRel l m → (∀ x ∈ l, (nestedKind X.prog X.w).is s.heap x.1 x.2.1) → ∀ y ∈ m, (nestedKind X.prog X.w).is s.heap y.1 y.2.1 := by
    intro l m q
    induction q with
    | nil => exact fun _ _ h => nomatch h
    | cons hq t ih =>
      intro hl y hy
      rcases List.mem_cons.mp hy with rfl | hy
      · rw [← hq.1, ← hq.2.1]
        exact hl _ (by simp)
      · exact ih (fun x m => hl x (List.mem_cons_of_mem _ m)) y hy
  exact all r hk
theorem dict_put {pins : List (Addr × Obj)} {σ : L2.St} {H : Hp} {s : Shared} {E : Value → Shared → Prop} {a b : Addr} {xs : List Ent} {k : NestedKey} {v : V} {r : Value} {Q : Unit → Shared → Prop} (hu : X.A.units + 8 < cLine) (I : Inv X pins σ H s) (e : H a = some (DicO X.prog X.w a xs)) (hk : ∀ x ∈ xs, (nestedKind X.prog X.w).is s.heap x.1 x.2.1) (eb : (nestedKind X.prog X.w).is s.heap k b) (hl : xs.length < sizeLine) (rv : RelV v r)
    (h : ∀ s', Inv X pins σ (upd H a (DicO X.prog X.w a (entPut xs k b v))) s' → Q () s') : wpAny (model X.prog X.w) X.A (dictSet a (.ref b) r) Q E s := by
  obtain ⟨z, hd, ys, rel, dd⟩ := dic_of I e hk
  have hz : ys.length ≤ sizeLine := by rw [← Paired.length rel]; exact z
  have hl2 := entPut_len xs k b v
  refine wpAny_dictSet_heap (hsz := hz) (show X.A.units + 8 < cLine from hu) eb dd fun h' ⟨q, es, ep, hq, h2, h3, h4, _, h5⟩ hs => h _ ?_
  exact d_write I (by rw [e]; exact True.intro) hs ⟨q, hq⟩ (dicO_ok (by omega) hd (ent_put rel rv) hq h2 h3 h4 h5)
def tDcT (P : Program) (w : World) (K : PySem.W.Frag) (okd : PySem.W.Frag → Hp → Ent → Prop) (wi : TI) (g : TG) (tt : TT) (tk tv : TE) (vs : List Nat) : TE := fun σ H Q => wi σ H fun J H1 => ∀ D, H1 D = none → ∃ W : Nat → Nat → Hp → Prop, (∃ m, W 0 m (upd H1 D (DicO P w D []))) ∧ ∀ i m H, W i m H →
  (J.stop i H ∧ Q (.ref D) H) ∨ (J.go i H ∧ ∃ Nx : Hp → Prop, (∀ H', Nx H' → ∃ m', m' < m ∧ W (i + 1) m' H') ∧ ∀ x H', J.yld i H x H' → g x (wipe σ vs) H' fun σ2 H2 => wipe σ2 vs = wipe σ vs ∧ tt σ2 H2 fun b H3 =>
    if b = true then tk σ2 H3 fun y H4 => tv σ2 H4 fun z H5 => ∃ xs k c, y = .ref c ∧ H5 D = some (DicO P w D xs) ∧ (∀ x ∈ xs, okd K H5 x) ∧ okd K H5 (k, c, z) ∧ xs.length < sizeLine ∧ Nx (upd H5 D (DicO P w D (entPut xs k c z))) else Nx H3)
theorem dcT_core {okd : PySem.W.Frag → Hp → Ent → Prop} (key : ∀ {Y : Cx} {pins : List (Addr × Obj)} {σ : L2.St} {H : Hp} {s : Shared} {x : Ent}, Y.prog = X.prog → Y.w = X.w → Y.K = X.K → Inv Y pins σ H s → okd X.K H x → (nestedKind X.prog X.w).is s.heap x.1 x.2.1) {pins : List (Addr × Obj)} {s : Shared} {σ : L2.St} {H : Hp} {Q : VK} {kx vx tg iter : Expr} {ifs : List Expr} {scope : Scope} {own : List (Str × Nat)} {pos pos' : Pos} {wi : TI} {g : TG} {tt : TT} {tk tv : TE} {use : Option (Value → Sem Unit)} {Qf : Value → Shared → Prop}
    (hu : X.A.units + 8 < cLine) (hc : X.calm = true) (hN : X.N.Nodup) (I : Inv X pins σ H s) (hi : PI X tg iter wi) (ok : BlkOk X.N X.env.scope scope own)
    (hg : ∀ (s : Shared) (H : Hp) (C : Addr) (cl : List (Str × Addr)) (fp : List Addr), PG (X.blk s H scope (compEnvC scope cl C X.env) fp) tg g) (ht : ∀ (s : Shared) (H : Hp) (C : Addr) (cl : List (Str × Addr)) (fp : List Addr), PTs (X.blk s H scope (compEnvC scope cl C X.env) fp) ifs tt)
    (hk : ∀ (s : Shared) (H : Hp) (C : Addr) (cl : List (Str × Addr)) (fp : List Addr), PE (X.blk s H scope (compEnvC scope cl C X.env) fp) kx tk) (he : ∀ (s : Shared) (H : Hp) (C : Addr) (cl : List (Str × Addr)) (fp : List Addr), PE (X.blk s H scope (compEnvC scope cl C X.env) fp) vx tv)
    (hs : ∀ x, foldedSetIterable iter X.env x = pure x) (h : tDcT X.prog X.w X.K okd wi g tt tk tv (own.map (·.2)) σ H Q)
    (last : ∀ D C s' m H', Inv X pins σ H' s' → Q (.ref D) H' → s'.heap.Ns C m → FpOk X pins H' C → compPost (model X.prog X.w) X.A X.xe use Qf (.ref D) C (.ok .next) s') :
    wpAny (model X.prog X.w) X.A (comprehension (.DictComp kx vx [⟨tg, iter, ifs, 0⟩] scope pos) scope X.env pos' newDict false (eval iter X.env) use) Qf X.xe s := by
  have free_ : ∀ y ∈ scope.names, y.2 = .free → ∃ c, X.env.cells.lookup y.1 = some c := fun y hy e => (ok.free y hy e).elim (fun k => I.ok.has _ (.inl k)) fun k => I.ok.has _ (.inr k)
  refine wpAny_comprehension_free (use := use) rfl hs (closure_ok free_) ok.kind (fun y hy e => by rw [ok.uniq y hy, e]) (thn (hi.run pins s σ H _ I h) fun xv s1 hx => thn hx fun itv s2 ⟨it, fp, tn, J, H2, e, I2, T, st2, f2, q⟩ => ?_)
  subst e
  refine wpAny_newObj_type (newEnv_comp ?_)
  generalize hD : s2.heap.objs.size = D
  obtain ⟨W, ⟨m0, w0⟩, turn⟩ := q D (I2.hok.fresh (Nat.le_of_eq hD))
  generalize hs3 : ({ s2 with heap := s2.heap.push { cls := .type "dict", data := .dict #[] } } : Shared) = s3
  have I3 : Inv X pins σ (upd H2 D (DicO X.prog X.w D [])) s3 := by
    rw [← hs3]
    refine I2.laid (t' := s2.toks) (fun b o e => Heap.get?_push_of_some _ e) (Nat.le_of_eq hD) ?_
    rw [← hD]
    exact dicO_ok (Nat.zero_le _) (by have := I2.big; simpa using Nat.ne_of_gt this) .nil (Heap.get?_push_size _ rfl) ⟨rfl, rfl, rfl⟩ rfl rfl .nil
  have h3 : s3.heap = s2.heap.push { cls := .type "dict", data := .dict #[] } := by rw [← hs3]
  have sz : ∀ b ∈ fp, b < s2.heap.objs.size := fun b hb => let ⟨o, e, _⟩ := T.obj _ _ st2 b hb; Heap.lt_size e
  have f3 : ∀ b ∈ fp, FpOk X pins (upd H2 D (DicO X.prog X.w D [])) b ∧ b < s3.heap.objs.size := fun b hb => by
    have hlt := sz b hb
    exact ⟨⟨by rw [upd_ne (by rw [← hD]; exact Nat.ne_of_lt hlt)]; exact (f2 b hb).1, (f2 b hb).2⟩, by rw [h3, Heap.size_push]; exact Nat.lt_succ_of_lt hlt⟩
  have st3 : tn 0 s3.heap := T.keep _ _ _ st2 fun b _ o e => by rw [h3]; exact Heap.get?_push_of_some _ e
  have I4 := block_start I3 ok hN f3
  generalize hcl : cellsFrom (s3.heap.objs.size + 1) scope.names (cloFrom X.env.cells scope.names []) = cl at I4
  have pg := hg s3 (upd H2 D (DicO X.prog X.w D [])) s3.heap.objs.size cl fp
  have pt := ht s3 (upd H2 D (DicO X.prog X.w D [])) s3.heap.objs.size cl fp
  have pk := hk s3 (upd H2 D (DicO X.prog X.w D [])) s3.heap.objs.size cl fp
  have pe := he s3 (upd H2 D (DicO X.prog X.w D [])) s3.heap.objs.size cl fp
  show codeAny _ _ (.compStart (.DictComp kx vx [⟨tg, iter, ifs, 0⟩] scope pos) 0 (.ref it) (.ref D) (compEnvC scope cl s3.heap.objs.size X.env)) (compPost (model X.prog X.w) X.A X.xe use Qf (.ref D) s3.heap.objs.size) { s3 with heap := pushCells (s3.heap.push { cls := .type "dict", data := .dict #[] }) scope.names }
  have nfp : ∀ b ∈ fp, (upd H2 D (DicO X.prog X.w D [])) b = none := fun b hb => (f3 b hb).1.1
  generalize hce : compEnvC scope cl s3.heap.objs.size X.env = ce at I4 pg pt pk pe ⊢
  have cL : ce.locals = s3.heap.objs.size := by subst hce; rfl
  generalize hH3 : upd H2 D (DicO X.prog X.w D []) = H3 at I3 I4 pg pt pk pe w0 nfp f3
  generalize hs4 : ({ s3 with heap := pushCells (s3.heap.push { cls := .type "dict", data := .dict #[] }) scope.names } : Shared) = s4 at I4 ⊢
  have st4 : tn 0 s4.heap := T.keep _ _ _ st3 fun b _ o e => by rw [← hs4]; exact pushCells_keeps _ _ _ _ (Heap.get?_push_of_some _ e)
  generalize hB : X.blk s3 H3 scope ce fp = B at I4 pg pt pk pe
  have stat : ∀ {σ' : L2.St} {H' : Hp} {s' : Shared}, Inv B [] σ' H' s' → (∀ b ∈ fp, H' b = none) → ∀ b ∈ fp, FpOk B [] H' b := by
    subst hB
    exact fun {σ' H' s'} I' hn b hb => ⟨hn b hb, (I'.ok.exf b hb).1, I'.ok.exfs b hb, .inl hb, fun x c e => (I'.ok.exf b hb).2 x c e, fun p hp => absurd (show p ∈ ([] : List (Addr × Obj)) ++ [] from hp) (by simp)⟩
  have loop : codeAny (model X.prog X.w) X.A (.compLoop (.DictComp kx vx [⟨tg, iter, ifs, 0⟩] scope pos) 0 (.ref it) (.ref D) ce) (compPost (model X.prog X.w) X.A X.xe use Qf (.ref D) s3.heap.objs.size) s4 := by
    refine compLoop_anyD (fun n s' => ∃ i H', Inv B [] (wipe σ (own.map (·.2))) H' s' ∧ tn i s'.heap ∧ (∀ b ∈ fp, H' b = none) ∧ W i n H') ?_ m0 ⟨0, H3, I4, st4, nfp, w0⟩
    rintro n s5 ⟨i, H5, I5, st5, n5, w5⟩
    subst hB
    rcases turn i n H5 w5 with ⟨stop, qq⟩ | ⟨go, Nx, hNx, step⟩
    · refine thnF (T.done (X.blk s3 H3 scope ce fp) rfl rfl rfl hc i [] s5 _ H5 (fun _ _ => False) I5 (stat I5 n5) st5 stop) fun r s6 ⟨hr, I6⟩ => ?_
      subst hr
      have I7 : Inv X pins σ H5 s6 := I3.call' (ch := fp) I6.os I6.base I6.hok I6.bare fun b hb => ⟨(f3 b hb).1.2.2.2.1, (f3 b hb).1.2.1, (f3 b hb).1.2.2.2.2.1, (f3 b hb).1.2.2.2.2.2⟩
      have nC : H5 s3.heap.objs.size = none := by rw [← cL]; exact I6.free
      obtain ⟨m, hn, _⟩ := I6.loc
      have hn : s6.heap.Ns ce.locals m := hn
      rw [cL] at hn
      exact last D s3.heap.objs.size s6 m H5 I7 qq hn (I3.fpOk (Nat.le_refl _) nC)
    · refine thnF (T.item (X.blk s3 H3 scope ce fp) rfl rfl rfl hc i [] s5 _ H5 (fun _ _ => False) I5 (stat I5 n5) st5 go) fun r s6 ⟨u, hr, h6⟩ => ?_
      subst hr
      refine thnF h6 fun _ s7 ⟨x, H7, I7, r7, y7, st7, n7⟩ => ?_
      have I7' := I7.pinned (stat I7 n7) (T.obj _ _ st7)
      refine thnF (pg.run _ s7 _ H7 x u _ I7' r7 (step x H7 y7)) fun _ s8 ⟨σ8, H8, I8, hw8, q8⟩ => thnF (pt.run _ s8 σ8 H8 _ I8 q8) fun b s9 ⟨H9, I9, q9⟩ => ?_
      have fin : ∀ {s' : Shared} {H' : Hp}, Inv (X.blk s3 H3 scope ce fp) ([] ++ pinsAt fp s7.heap) σ8 H' s' → Nx H' → ∃ m, m < n ∧ ∃ i H', Inv (X.blk s3 H3 scope ce fp) [] (wipe σ (own.map (·.2))) H' s' ∧ tn i s'.heap ∧ (∀ b ∈ fp, H' b = none) ∧ W i m H' := fun {s' H'} I' nx => by
        obtain ⟨m', hm, w'⟩ := hNx H' nx
        have pin' : ∀ b ∈ fp, ∀ o, s7.heap.get? b = some o → s'.heap.get? b = some o ∧ H' b = none := fun b hb o e => let z := I'.pin (b, o) (List.mem_append_right _ (List.mem_append_right _ (mem_pinsAt hb e))); ⟨z.1, z.2.1⟩
        refine ⟨m', hm, i + 1, H', (I'.unpinned (pins := [])).weak (by rw [← hw8, wipe_length]) (fun j v e => ?_), T.keep _ _ _ st7 fun b hb o e => (pin' b hb o e).1, fun b hb => ?_, w'⟩
        · rw [← hw8] at e
          exact (wipe_some e).1
        · obtain ⟨o, e, _⟩ := T.obj _ _ st7 b hb
          exact (pin' b hb o e).2
      cases b with
      | false =>
        simp only [Bool.false_eq_true, if_false] at q9 ⊢
        exact fin I9 q9
      | true =>
        simp only [if_true] at q9 ⊢
        refine thnF (pk.run _ s9 σ8 H9 _ I9 q9) fun z s10 ⟨yk, H10, I10, r10, q10⟩ => thnF (pe.run _ s10 σ8 H10 _ I10 q10) fun z2 s11 ⟨yv, H11, I11, r11, xs, k, c, ek, hD11, hx11, hc11, hz11, nx⟩ => ?_
        subst ek
        cases r10
        exact dict_put (X := X.blk s3 H3 scope ce fp) hu I11 hD11 (fun x m => key (Y := X.blk s3 H3 scope ce fp) rfl rfl rfl I11 (hx11 x m)) (key (Y := X.blk s3 H3 scope ce fp) rfl rfl rfl I11 hc11) hz11 r11 fun s12 I12 => fin I12 nx
  exact codeAny_compStart_dict loop (T.self X.A 0 _ _ _ st4 loop)
theorem pe_dcT {okd : PySem.W.Frag → Hp → Ent → Prop} (key : ∀ {Y : Cx} {pins : List (Addr × Obj)} {σ : L2.St} {H : Hp} {s : Shared} {x : Ent}, Y.prog = X.prog → Y.w = X.w → Y.K = X.K → Inv Y pins σ H s → okd X.K H x → (nestedKind X.prog X.w).is s.heap x.1 x.2.1) {kx vx tg iter : Expr} {ifs : List Expr} {scope : Scope} {own : List (Str × Nat)} {pos : Pos} {wi : TI} {g : TG} {tt : TT} {tk tv : TE} (hu : X.A.units + 8 < cLine) (hc : X.calm = true) (hN : X.N.Nodup) (hi : PI X tg iter wi) (ok : BlkOk X.N X.env.scope scope own)
    (hg : ∀ (s : Shared) (H : Hp) (C : Addr) (cl : List (Str × Addr)) (fp : List Addr), PG (X.blk s H scope (compEnvC scope cl C X.env) fp) tg g) (ht : ∀ (s : Shared) (H : Hp) (C : Addr) (cl : List (Str × Addr)) (fp : List Addr), PTs (X.blk s H scope (compEnvC scope cl C X.env) fp) ifs tt)
    (hk : ∀ (s : Shared) (H : Hp) (C : Addr) (cl : List (Str × Addr)) (fp : List Addr), PE (X.blk s H scope (compEnvC scope cl C X.env) fp) kx tk) (he : ∀ (s : Shared) (H : Hp) (C : Addr) (cl : List (Str × Addr)) (fp : List Addr), PE (X.blk s H scope (compEnvC scope cl C X.env) fp) vx tv)
    (hs : ∀ x, foldedSetIterable iter X.env x = pure x := by intro _; rfl) : PE X (.DictComp kx vx [⟨tg, iter, ifs, 0⟩] scope pos) (tDcT X.prog X.w X.K okd wi g tt tk tv (own.map (·.2))) := by
  refine ⟨fun pins s σ H Q I h => ?_⟩
  rw [arm_eval_DictComp]
  refine dcT_core key hu hc hN I hi ok hg ht hk he hs h fun D C s' m H' I' q hn ⟨f0, f1, f2, f3, f4, f5⟩ => ⟨m, hn, fun h'' sb => ?_⟩
  exact ⟨.ref D, H', I'.turned (t' := s'.toks) (fun b o hb e => (sb.2 b hb).trans e) f0 f1 f3 f4 f5, rfl, q⟩
end
end Kd

/-! Ka: a calculus over data. A def's body is run over data (PyData), not over addresses: W tells which objects are kept apart (hidden) and what is known of them. -/
namespace Ka
open PySem PySem.Spec PyProof.Rows L2 Evl

/-! ### what is hidden -/
def vw (hid : Addr → Bool) (H : Hp) : Hp := fun a => if hid a = true then none else H a
theorem vw_of {hid : Addr → Bool} {H : Hp} {a : Addr} (h : hid a = false) : vw hid H a = H a := by
  unfold vw
  rw [h]
  rfl
theorem vw_hid {hid : Addr → Bool} {H : Hp} {a : Addr} (h : hid a = true) : vw hid H a = none := by
  unfold vw
  rw [if_pos h]
theorem vw_some {hid : Addr → Bool} {H : Hp} {a : Addr} {o : HO} (h : vw hid H a = some o) : hid a = false ∧ H a = some o := by
  cases e : hid a with
  | true =>
    rw [vw_hid e] at h
    cases h
  | false =>
    rw [vw_of e] at h
    exact ⟨rfl, h⟩
theorem vw_ex {hid : Addr → Bool} {H H' : Hp} (e : Ex H H') : Ex (vw hid H) (vw hid H') := fun a o h => by
  obtain ⟨h1, h2⟩ := vw_some h
  rw [vw_of h1]
  exact e a o h2
/-- fewer hidden -/
theorem vw_less {hid hid' : Addr → Bool} {H : Hp} (h : ∀ a, hid' a = true → hid a = true) : Ex (vw hid H) (vw hid' H) := fun a o q => by
  obtain ⟨h1, h2⟩ := vw_some q
  cases e : hid' a with
  | true =>
    rw [h a e] at h1
    cases h1
  | false =>
    rw [vw_of e]
    exact h2
structure Wd where
  hid : Addr → Bool
  inv : Hp → Prop
  loc : ∀ H H' : Hp, (∀ a, hid a = true → H' a = H a) → Ex (vw hid H) (vw hid H') → inv H → inv H'
  live : ∀ (H : Hp) (a : Addr), inv H → hid a = true → H a ≠ none
abbrev Wd.view (W : Wd) (H : Hp) : Hp := vw W.hid H
theorem Wd.view_of {W : Wd} {H : Hp} {a : Addr} (h : W.hid a = false) : W.view H a = H a := vw_of h
theorem Wd.view_le {W : Wd} {H : Hp} : Ex (W.view H) H := fun _ _ h => (vw_some h).2
theorem Wd.hid_none {W : Wd} {H : Hp} {a : Addr} (i : W.inv H) (h : H a = none) : W.hid a = false := by
  cases e : W.hid a with
  | true => exact absurd h (W.live H a i e)
  | false => rfl
/-- nothing is hidden -/
def Wd.top : Wd := ⟨fun _ => false, fun _ => True, fun _ _ _ _ _ => trivial, fun _ _ _ h => by cases h⟩
/-- what is known of a hidden object -/
structure Kn where
  of : Hp → HO → Prop
  mono : ∀ {H H' : Hp} {o : HO}, Ex H H' → of H o → of H' o
abbrev hidAnd (hid : Addr → Bool) (l : Addr) : Addr → Bool := fun a => hid a || decide (a = l)
theorem hidAnd_self {hid : Addr → Bool} {l : Addr} : hidAnd hid l l = true := by simp [hidAnd]
theorem hidAnd_ne {hid : Addr → Bool} {l a : Addr} (h : hid a = false) (hn : a ≠ l) : hidAnd hid l a = false := by simp [hidAnd, h, hn]
theorem hidAnd_of {hid : Addr → Bool} {l a : Addr} (h : hid a = true) : hidAnd hid l a = true := by simp [hidAnd, h]
/-- the heap without l -/
def del (H : Hp) (l : Addr) : Hp := fun a => if a = l then none else H a
theorem del_self {H : Hp} {l : Addr} : del H l l = none := by
  unfold del
  rw [if_pos rfl]
theorem del_ne {H : Hp} {l a : Addr} (h : a ≠ l) : del H l a = H a := by
  unfold del
  rw [if_neg h]
theorem del_le {H : Hp} {l : Addr} : Ex (del H l) H := fun a o h => by
  by_cases e : a = l
  · rw [e, del_self] at h
    cases h
  · rw [del_ne e] at h
    exact h
theorem del_upd {H : Hp} {l : Addr} {o : HO} : del (upd H l o) l = del H l := by
  funext a
  by_cases e : a = l
  · rw [e, del_self, del_self]
  · rw [del_ne e, del_ne e, upd_ne e]
theorem del_none {H : Hp} {l : Addr} (h : H l = none) : del H l = H := by
  funext a
  by_cases e : a = l
  · rw [e, del_self, h]
  · rw [del_ne e]
theorem vw_del {hid : Addr → Bool} {H : Hp} {l : Addr} : vw (hidAnd hid l) H = vw hid (del H l) := by
  funext a
  by_cases e : a = l
  · rw [e, vw_hid hidAnd_self]
    unfold vw
    rw [del_self]
    split <;> rfl
  · unfold vw hidAnd
    rw [decide_eq_false e, Bool.or_false, del_ne e]
/-- the object at l stands apart; φ is known of it -/
def Wd.hide (W : Wd) (l : Addr) (φ : Kn) : Wd where
  hid := hidAnd W.hid l
  inv H := W.inv (del H l) ∧ ∃ o, H l = some o ∧ φ.of (vw W.hid (del H l)) o
  loc H H' h e i := by
    obtain ⟨i1, o, ho, p⟩ := i
    rw [vw_del, vw_del] at e
    refine ⟨W.loc (del H l) (del H' l) (fun a ha => ?_) e i1, o, by rw [h l hidAnd_self]; exact ho, φ.mono e p⟩
    by_cases hl : a = l
    · rw [hl, del_self, del_self]
    · rw [del_ne hl, del_ne hl]
      exact h a (hidAnd_of ha)
  live H a i h := by
    obtain ⟨i1, o, ho, _⟩ := i
    rcases Bool.or_eq_true_iff.mp h with q | q
    · exact fun z => W.live (del H l) a i1 q (by
        by_cases hl : a = l
        · rw [hl, del_self]
        · rw [del_ne hl]
          exact z)
    · have e : a = l := of_decide_eq_true q
      rw [e, ho]
      exact fun z => by cases z
/-- all that was there stands: the hidden things too -/
theorem Wd.inv_ex {W : Wd} {H H' : Hp} (i : W.inv H) (e : Ex H H') : W.inv H' := W.loc H H' (fun a ha => by
  cases q : H a with
  | none => exact absurd q (W.live H a i ha)
  | some o => exact e a o q) (vw_ex e) i
theorem Wd.view_ex {W : Wd} {H H' : Hp} (e : Ex H H') : Ex (W.view H) (W.view H') := vw_ex e
/-- a new object -/
theorem Wd.inv_new {W : Wd} {H : Hp} {p : Addr} {o : HO} (i : W.inv H) (hp : H p = none) : W.inv (upd H p o) := Wd.inv_ex i (Ex.new hp)
theorem Wd.view_new {W : Wd} {H : Hp} {p : Addr} {o : HO} (i : W.inv H) (hp : H p = none) : W.view (upd H p o) p = some o := by
  rw [Wd.view_of (Wd.hid_none i hp)]
  exact upd_same
/-- a new object is hidden at once -/
theorem Wd.hide_new {W : Wd} {H : Hp} {p : Addr} {o : HO} {φ : Kn} (i : W.inv H) (hp : H p = none) (h : φ.of (W.view H) o) : (W.hide p φ).inv (upd H p o) ∧ (W.hide p φ).view (upd H p o) = W.view H := by
  have e : (W.hide p φ).view (upd H p o) = W.view H := by
    show vw (hidAnd W.hid p) (upd H p o) = vw W.hid H
    rw [vw_del, del_upd, del_none hp]
  refine ⟨⟨?_, o, upd_same, ?_⟩, e⟩
  · rw [del_upd, del_none hp]
    exact i
  · rw [del_upd, del_none hp]
    exact h
/-- a hidden object is written -/
theorem Wd.hide_put {W : Wd} {H : Hp} {p : Addr} {u : HO} {φ ψ : Kn} (i : (W.hide p φ).inv H) (h : ψ.of ((W.hide p φ).view H) u) : (W.hide p ψ).inv (upd H p u) ∧ (W.hide p ψ).view (upd H p u) = (W.hide p φ).view H := by
  obtain ⟨i1, o, ho, k⟩ := i
  have e1 : (W.hide p φ).view H = vw W.hid (del H p) := vw_del
  have e : (W.hide p ψ).view (upd H p u) = (W.hide p φ).view H := by
    rw [e1]
    show vw (hidAnd W.hid p) (upd H p u) = _
    rw [vw_del, del_upd]
  rw [e1] at h
  refine ⟨⟨?_, u, upd_same, ?_⟩, e⟩
  · rw [del_upd]
    exact i1
  · rw [del_upd]
    exact h
theorem Wd.hide_at {W : Wd} {H : Hp} {p : Addr} {φ : Kn} (i : (W.hide p φ).inv H) : ∃ o, H p = some o ∧ φ.of ((W.hide p φ).view H) o := by
  obtain ⟨i1, o, ho, k⟩ := i
  refine ⟨o, ho, ?_⟩
  show φ.of (vw (hidAnd W.hid p) H) o
  rw [vw_del]
  exact k
/-- it is seen again -/
theorem Wd.unhide {W : Wd} {H : Hp} {p : Addr} {φ : Kn} (hp : W.hid p = false) (i : (W.hide p φ).inv H) : W.inv H ∧ Ex ((W.hide p φ).view H) (W.view H) ∧ ∃ o, W.view H p = some o ∧ φ.of (W.view H) o := by
  have k := Wd.hide_at i
  obtain ⟨i1, _⟩ := i
  have e : Ex ((W.hide p φ).view H) (W.view H) := vw_less fun a h => hidAnd_of h
  obtain ⟨o, ho, k⟩ := k
  refine ⟨W.inv_ex i1 del_le, e, o, ?_, φ.mono e k⟩
  rw [Wd.view_of hp]
  exact ho

/-! ### data in the heap -/
mutual
inductive Dq (K : PySem.W.Frag) (H : Hp) : V → PyData → Prop
  | non : Dq K H .non .none
  | bl (b : Bool) : Dq K H (.bl b) (.bool b)
  | int (i : Int) : Dq K H (.int i) (.int i)
  | str (x : Str) : Dq K H (.str x) (.str x)
  | lst {a : Addr} {xs : List V} {ds : List PyData} : H a = some (.lst xs) → Dqs K H xs ds → Dq K H (.ref a) (.list ds)
  | tup {a : Addr} {xs : List V} {ds : List PyData} : SqT K H a xs → Dqs K H xs ds → Dq K H (.ref a) (.tuple ds)
inductive Dqs (K : PySem.W.Frag) (H : Hp) : List V → List PyData → Prop
  | nil : Dqs K H [] []
  | cons {v : V} {vs : List V} {d : PyData} {ds : List PyData} : Dq K H v d → Dqs K H vs ds → Dqs K H (v :: vs) (d :: ds)
end
section
variable {K : PySem.W.Frag} {H H' : Hp}
mutual
theorem Dq.mono (e : Ex H H') : ∀ {v : V} {d : PyData}, Dq K H v d → Dq K H' v d
  | _, _, .non => .non
  | _, _, .bl b => .bl b
  | _, _, .int i => .int i
  | _, _, .str x => .str x
  | _, _, .lst h hs => .lst (e _ _ h) (Dqs.mono e hs)
  | _, _, .tup h hs => .tup (ex_t e h) (Dqs.mono e hs)
theorem Dqs.mono (e : Ex H H') : ∀ {vs : List V} {ds : List PyData}, Dqs K H vs ds → Dqs K H' vs ds
  | _, _, .nil => .nil
  | _, _, .cons h hs => .cons (Dq.mono e h) (Dqs.mono e hs)
end
mutual
theorem Dq.dp : ∀ {v : V} {d : PyData}, Dq K H v d → Dp K H v d
  | _, _, .non => .non
  | _, _, .bl b => .bl b
  | _, _, .int i => .int i
  | _, _, .str x => .str x
  | _, _, .lst h hs => .lst (SqL.of h) (Dqs.dp hs)
  | _, _, .tup h hs => .tup h (Dqs.dp hs)
theorem Dqs.dp : ∀ {vs : List V} {ds : List PyData}, Dqs K H vs ds → DpAll K H vs ds
  | _, _, .nil => .nil
  | _, _, .cons h hs => .cons (Dq.dp h) (Dqs.dp hs)
end
theorem Dqs.length : ∀ {vs : List V} {ds : List PyData}, Dqs K H vs ds → vs.length = ds.length
  | _, _, .nil => rfl
  | _, _, .cons _ hs => by rw [List.length_cons, List.length_cons, Dqs.length hs]
theorem Dqs.get : ∀ {vs : List V} {ds : List PyData} {i : Nat} {v : V}, Dqs K H vs ds → vs[i]? = some v → ∃ d, ds[i]? = some d ∧ Dq K H v d
  | _, _, _, _, .nil, e => by simp at e
  | _, _, 0, _, .cons h _, e => by
    simp at e
    subst e
    exact ⟨_, rfl, h⟩
  | _, _, i + 1, v, .cons _ hs, e => by
    obtain ⟨d, h1, h2⟩ := Dqs.get (i := i) (v := v) hs (by simpa using e)
    exact ⟨d, by simpa using h1, h2⟩
theorem Dqs.getd : ∀ {vs : List V} {ds : List PyData} {i : Nat} {d : PyData}, Dqs K H vs ds → ds[i]? = some d → ∃ v, vs[i]? = some v ∧ Dq K H v d
  | _, _, _, _, .nil, e => by simp at e
  | _, _, 0, _, .cons h _, e => by
    simp at e
    subst e
    exact ⟨_, rfl, h⟩
  | _, _, i + 1, v, .cons _ hs, e => by
    obtain ⟨d, h1, h2⟩ := Dqs.getd (i := i) (d := v) hs (by simpa using e)
    exact ⟨d, by simpa using h1, h2⟩
theorem Dqs.append : ∀ {vs us : List V} {ds es : List PyData}, Dqs K H vs ds → Dqs K H us es → Dqs K H (vs ++ us) (ds ++ es)
  | _, _, _, _, .nil, h => h
  | _, _, _, _, .cons h1 h2, h => .cons h1 (Dqs.append h2 h)
theorem Dqs.take : ∀ {vs : List V} {ds : List PyData} (n : Nat), Dqs K H vs ds → Dqs K H (vs.take n) (ds.take n)
  | _, _, 0, _ => .nil
  | _, _, _ + 1, .nil => .nil
  | _, _, n + 1, .cons h hs => .cons h (Dqs.take n hs)
theorem Dqs.drop : ∀ {vs : List V} {ds : List PyData} (n : Nat), Dqs K H vs ds → Dqs K H (vs.drop n) (ds.drop n)
  | _, _, 0, h => h
  | _, _, _ + 1, .nil => .nil
  | _, _, n + 1, .cons _ hs => Dqs.drop n hs
theorem Dqs.reverse : ∀ {vs : List V} {ds : List PyData}, Dqs K H vs ds → Dqs K H vs.reverse ds.reverse
  | _, _, .nil => .nil
  | _, _, .cons h hs => by
    rw [List.reverse_cons, List.reverse_cons]
    exact Dqs.append (Dqs.reverse hs) (.cons h .nil)
theorem Dqs.ints : ∀ (ns : List Int), Dqs K H (ns.map V.int) (ns.map PyData.int)
  | [] => .nil
  | n :: ns => .cons (.int n) (Dqs.ints ns)
theorem Dqs.ints_inv : ∀ {ns : List Int} {vs : List V}, Dqs K H vs (ns.map PyData.int) → vs = ns.map V.int
  | [], _, h => by
    cases h
    rfl
  | n :: ns, _, h => by
    cases h with
    | cons h1 h2 =>
      cases h1
      rw [Dqs.ints_inv (ns := ns) h2]
      rfl
end

/-! ### a slot's content: data, a bare value, an object -/
inductive DV where
  | dat (d : PyData)
  | raw (v : V)
  | obj (f : Addr → HO)
  | rel (R : PySem.W.Frag → Hp → V → Prop) (up : ∀ {K : PySem.W.Frag} {H H' : Hp} {v : V}, Ex H H' → R K H v → R K H' v)
def RepV (K : PySem.W.Frag) (H : Hp) (v : V) : DV → Prop
  | .dat d => Dq K H v d
  | .raw u => v = u
  | .obj f => ∃ p, v = .ref p ∧ H p = some (f p)
  | .rel R _ => R K H v
theorem RepV.mono {K : PySem.W.Frag} {H H' : Hp} {v : V} (x : Ex H H') : ∀ {e : DV}, RepV K H v e → RepV K H' v e
  | .dat _, h => Dq.mono x h
  | .raw _, h => h
  | .obj _, ⟨p, h1, h2⟩ => ⟨p, h1, x _ _ h2⟩
  | .rel _ up, h => up x h
abbrev DEnv := List (Option DV)
abbrev Reps (K : PySem.W.Frag) (H : Hp) : List V → List DV → Prop := Paired fun v e => RepV K H v e
theorem Reps.mono {K : PySem.W.Frag} {H H' : Hp} (x : Ex H H') : ∀ {vs : List V} {es : List DV}, Reps K H vs es → Reps K H' vs es
  | _, _, .nil => .nil
  | _, _, .cons h t => .cons (RepV.mono x h) (Reps.mono x t)
/-- the slots hold what the data environment says -/
structure EnvOk (K : PySem.W.Frag) (H : Hp) (σ : L2.St) (Δ : DEnv) : Prop where
  len : σ.length = Δ.length
  at_ : ∀ (i : Nat) (e : DV), Δ[i]? = some (some e) → ∃ v, σ[i]? = some (some v) ∧ RepV K H v e
theorem EnvOk.mono {K : PySem.W.Frag} {H H' : Hp} {σ : L2.St} {Δ : DEnv} (x : Ex H H') (h : EnvOk K H σ Δ) : EnvOk K H' σ Δ :=
  ⟨h.len, fun i e q => by
    obtain ⟨v, h1, h2⟩ := h.at_ i e q
    exact ⟨v, h1, h2.mono x⟩⟩
theorem EnvOk.set {K : PySem.W.Frag} {H : Hp} {σ : L2.St} {Δ : DEnv} (h : EnvOk K H σ Δ) {i : Nat} {v : V} {e : DV} (r : RepV K H v e) : EnvOk K H (σ.set i (some v)) (Δ.set i (some e)) :=
  ⟨by rw [List.length_set, List.length_set, h.len], fun j u q => by
    by_cases hj : i = j
    · subst hj
      by_cases hl : i < Δ.length
      · rw [List.getElem?_set_self hl] at q
        cases q
        exact ⟨v, by rw [List.getElem?_set_self (by rw [h.len]; exact hl)], r⟩
      · rw [List.getElem?_eq_none (by simpa using hl)] at q
        cases q
    · rw [List.getElem?_set_ne hj] at q ⊢
      exact h.at_ j u q⟩
/-- slots forgotten -/
def wipeD (Δ : DEnv) : List Nat → DEnv
  | [] => Δ
  | v :: vs => (wipeD Δ vs).set v none
theorem EnvOk.forget {K : PySem.W.Frag} {H : Hp} {σ : L2.St} {Δ : DEnv} (h : EnvOk K H σ Δ) {i : Nat} : EnvOk K H (σ.set i none) (Δ.set i none) :=
  ⟨by rw [List.length_set, List.length_set, h.len], fun j u q => by
    by_cases hj : i = j
    · subst hj
      by_cases hl : i < Δ.length
      · rw [List.getElem?_set_self hl] at q
        cases q
      · rw [List.getElem?_eq_none (by simpa using hl)] at q
        cases q
    · rw [List.getElem?_set_ne hj] at q ⊢
      exact h.at_ j u q⟩
theorem EnvOk.wipe {K : PySem.W.Frag} {H : Hp} {σ : L2.St} {Δ : DEnv} (h : EnvOk K H σ Δ) : ∀ {vs : List Nat}, EnvOk K H (wipe σ vs) (wipeD Δ vs)
  | [] => h
  | v :: vs => (EnvOk.wipe h (vs := vs)).forget
/-! ### the judgements -/
section
variable (K : PySem.W.Frag)
/-- an expression gives a content of which P -/
def DE (W : Wd) (Δ : DEnv) (te : TE) (P : DV → Prop) : Prop :=
  ∀ (σ : L2.St) (H : Hp), EnvOk K (W.view H) σ Δ → W.inv H → ∀ Q : VK, (∀ v H' e, W.inv H' → Ex (W.view H) (W.view H') → P e → RepV K (W.view H') v e → Q v H') → te σ H Q
def DT (W : Wd) (Δ : DEnv) (tt : TT) (P : Bool → Prop) : Prop :=
  ∀ (σ : L2.St) (H : Hp), EnvOk K (W.view H) σ Δ → W.inv H → ∀ Q : Bool → Hp → Prop, (∀ b H', W.inv H' → Ex (W.view H) (W.view H') → P b → Q b H') → tt σ H Q
def DA (W : Wd) (Δ : DEnv) (ta : TA) (P : List DV → Prop) : Prop :=
  ∀ (σ : L2.St) (H : Hp), EnvOk K (W.view H) σ Δ → W.inv H → ∀ Q : List V → Hp → Prop, (∀ vs H' es, W.inv H' → Ex (W.view H) (W.view H') → P es → Reps K (W.view H') vs es → Q vs H') → ta σ H Q
/-- an operation by values -/
def OpD (W : Wd) (r : R2) (a b : DV) (P : DV → Prop) : Prop :=
  ∀ (x y : V) (H : Hp), W.inv H → RepV K (W.view H) x a → RepV K (W.view H) y b → ∀ Q : VK, (∀ v H' e, W.inv H' → Ex (W.view H) (W.view H') → P e → RepV K (W.view H') v e → Q v H') → r x y H Q
def UnD (W : Wd) (r : V → Hp → VK → Prop) (a : DV) (P : DV → Prop) : Prop :=
  ∀ (x : V) (H : Hp), W.inv H → RepV K (W.view H) x a → ∀ Q : VK, (∀ v H' e, W.inv H' → Ex (W.view H) (W.view H') → P e → RepV K (W.view H') v e → Q v H') → r x H Q
def CalD (W : Wd) (r : List V → Hp → VK → Prop) (as : List DV) (P : DV → Prop) : Prop :=
  ∀ (xs : List V) (H : Hp), W.inv H → Reps K (W.view H) xs as → ∀ Q : VK, (∀ v H' e, W.inv H' → Ex (W.view H) (W.view H') → P e → RepV K (W.view H') v e → Q v H') → r xs H Q
/-- a statement: nx what follows, rt the return, bk, ct -/
structure Cnt (W : Wd) (H : Hp) (D : Ends) (nx : Wd → DEnv → Prop) (rt : Wd → DV → Prop) (bk ct : Wd → DEnv → Prop) : Prop where
  nx : ∀ W' Δ' σ' H', nx W' Δ' → W'.inv H' → Ex (W.view H) (W'.view H') → EnvOk K (W'.view H') σ' Δ' → D.nx σ' H'
  rt : ∀ W' e v H', rt W' e → W'.inv H' → Ex (W.view H) (W'.view H') → RepV K (W'.view H') v e → D.rt v H'
  bk : ∀ W' Δ' σ' H', bk W' Δ' → W'.inv H' → Ex (W.view H) (W'.view H') → EnvOk K (W'.view H') σ' Δ' → D.bk σ' H'
  ct : ∀ W' Δ' σ' H', ct W' Δ' → W'.inv H' → Ex (W.view H) (W'.view H') → EnvOk K (W'.view H') σ' Δ' → D.ct σ' H'
def DS (W : Wd) (Δ : DEnv) (t : TS) (nx : Wd → DEnv → Prop) (rt : Wd → DV → Prop) (bk ct : Wd → DEnv → Prop) : Prop :=
  ∀ (σ : L2.St) (H : Hp) (D : Ends), EnvOk K (W.view H) σ Δ → W.inv H → Cnt K W H D nx rt bk ct → t D σ H
end
section
variable {K : PySem.W.Frag} {W W1 : Wd} {Δ Δ1 : DEnv} {te ta tb tc tx : TE} {tt tu : TT} {t u : TS} {r r' : R2} {P P' : DV → Prop} {PB : Bool → Prop} {PL : List DV → Prop}
  {nx nx' : Wd → DEnv → Prop} {rt : Wd → DV → Prop} {bk ct : Wd → DEnv → Prop} {H H1 : Hp} {D : Ends}
theorem Cnt.step (c : Cnt K W H D nx rt bk ct) (x : Ex (W.view H) (W1.view H1)) : Cnt K W1 H1 D nx rt bk ct :=
  ⟨fun W' Δ' σ' H' n i e v => c.nx W' Δ' σ' H' n i (x.trans e) v, fun W' e v H' n i x2 r => c.rt W' e v H' n i (x.trans x2) r, fun W' Δ' σ' H' n i e v => c.bk W' Δ' σ' H' n i (x.trans e) v, fun W' Δ' σ' H' n i e v => c.ct W' Δ' σ' H' n i (x.trans e) v⟩
theorem DE.mono (h : DE K W Δ te P) (k : ∀ e, P e → P' e) : DE K W Δ te P' := fun σ H v i Q q => h σ H v i Q fun v' H' e i' x p r => q v' H' e i' x (k e p) r
theorem DT.mono {PB' : Bool → Prop} (h : DT K W Δ tt PB) (k : ∀ b, PB b → PB' b) : DT K W Δ tt PB' := fun σ H v i Q q => h σ H v i Q fun b H' i' x p => q b H' i' x (k b p)
theorem DA.mono {ta : TA} {PL' : List DV → Prop} (h : DA K W Δ ta PL) (k : ∀ es, PL es → PL' es) : DA K W Δ ta PL' := fun σ H v i Q q => h σ H v i Q fun vs H' es i' x p r => q vs H' es i' x (k es p) r
theorem DS.mono {rt' : Wd → DV → Prop} {bk' ct' : Wd → DEnv → Prop} (h : DS K W Δ t nx rt bk ct) (k1 : ∀ W Δ, nx W Δ → nx' W Δ) (k2 : ∀ W e, rt W e → rt' W e) (k3 : ∀ W Δ, bk W Δ → bk' W Δ) (k4 : ∀ W Δ, ct W Δ → ct' W Δ) : DS K W Δ t nx' rt' bk' ct' :=
  fun σ H D v i c => h σ H D v i ⟨fun W' Δ' σ' H' n => c.nx W' Δ' σ' H' (k1 _ _ n), fun W' e v H' n => c.rt W' e v H' (k2 _ _ n), fun W' Δ' σ' H' n => c.bk W' Δ' σ' H' (k3 _ _ n), fun W' Δ' σ' H' n => c.ct W' Δ' σ' H' (k4 _ _ n)⟩
/-! ### expressions -/
theorem de_var {i : Nat} {e : DV} (h : Δ[i]? = some (some e)) (k : P e) : DE K W Δ (tVar i) P := fun σ H v i Q q => by
  obtain ⟨x, h1, h2⟩ := v.at_ _ e h
  exact ⟨x, h1, q x H e i (Ex.refl _) k h2⟩
theorem de_int {n : Int} (k : P (.dat (.int n))) : DE K W Δ (tC (.int n)) P := fun σ H v i Q q => q _ H _ i (Ex.refl _) k (.int n)
theorem de_bl {b : Bool} (k : P (.dat (.bool b))) : DE K W Δ (tC (.bl b)) P := fun σ H v i Q q => q _ H _ i (Ex.refl _) k (.bl b)
theorem de_raw {x : V} (k : P (.raw x)) : DE K W Δ (tC x) P := fun σ H v i Q q => q _ H _ i (Ex.refl _) k rfl
theorem de_op (h : DE K W Δ ta fun a => DE K W Δ tb fun b => OpD K W r a b P) : DE K W Δ (tOp r ta tb) P := fun σ H v i Q q =>
  h σ H v i _ fun x H1 a i1 x1 p1 r1 => p1 σ H1 (v.mono x1) i1 _ fun y H2 b i2 x2 p2 r2 => p2 x y H2 i2 (r1.mono x2) r2 Q fun z H3 e i3 x3 p r3 => q z H3 e i3 ((x1.trans x2).trans x3) p r3
theorem de_un {r : V → Hp → VK → Prop} (h : DE K W Δ ta fun a => UnD K W r a P) : DE K W Δ (tUn r ta) P := fun σ H v i Q q =>
  h σ H v i _ fun x H1 a i1 x1 p1 r1 => p1 x H1 i1 r1 Q fun z H3 e i3 x3 p r3 => q z H3 e i3 (x1.trans x3) p r3
theorem de_if (h : DT K W Δ tt fun b => (b = true → DE K W Δ ta P) ∧ (b = false → DE K W Δ tb P)) : DE K W Δ (tIf tt ta tb) P := fun σ H v i Q q =>
  h σ H v i _ fun b H1 i1 x1 p1 => by
    cases b with
    | true =>
      show ta σ H1 Q
      exact p1.1 rfl σ H1 (v.mono x1) i1 Q fun z H3 e i3 x3 p r3 => q z H3 e i3 (x1.trans x3) p r3
    | false =>
      show tb σ H1 Q
      exact p1.2 rfl σ H1 (v.mono x1) i1 Q fun z H3 e i3 x3 p r3 => q z H3 e i3 (x1.trans x3) p r3
theorem de_andV (h : DE K W Δ ta fun a => ∃ b, a = .dat (.bool b) ∧ (b = true → DE K W Δ tb P) ∧ (b = false → P (.dat (.bool false)))) : DE K W Δ (tAndV ta tb) P := fun σ H v i Q q =>
  h σ H v i _ fun x H1 a i1 x1 p1 r1 => by
    obtain ⟨b, rfl, k1, k2⟩ := p1
    cases r1
    cases b with
    | true => exact ⟨true, rfl, k1 rfl σ H1 (v.mono x1) i1 Q fun z H3 e i3 x3 p r3 => q z H3 e i3 (x1.trans x3) p r3⟩
    | false => exact ⟨false, rfl, q _ H1 _ i1 x1 (k2 rfl) (.bl false)⟩
theorem de_notV (h : DE K W Δ ta fun a => ∃ b, a = .dat (.bool b) ∧ P (.dat (.bool (!b)))) : DE K W Δ (tNotV ta) P := fun σ H v i Q q =>
  h σ H v i _ fun x H1 a i1 x1 p1 r1 => by
    obtain ⟨b, rfl, k1⟩ := p1
    cases r1
    exact ⟨b, rfl, q _ H1 _ i1 x1 k1 (.bl _)⟩
theorem da_nil (k : PL []) : DA K W Δ tNil PL := fun σ H v i Q q => q [] H [] i (Ex.refl _) k .nil
theorem da_cons {tr : TA} (h : DE K W Δ te fun e => DA K W Δ tr fun es => PL (e :: es)) : DA K W Δ (tCons te tr) PL := fun σ H v i Q q =>
  h σ H v i _ fun x H1 e i1 x1 p1 r1 => p1 σ H1 (v.mono x1) i1 _ fun xs H2 es i2 x2 p2 r2 => q _ H2 _ i2 (x1.trans x2) p2 (.cons (r1.mono x2) r2)
theorem Reps.dats : ∀ {vs : List V} {ds : List PyData}, Reps K H vs (ds.map DV.dat) → Dqs K H vs ds
  | _, [], h => by
    cases h
    exact .nil
  | _, d :: ds, h => by
    cases h with
    | cons h1 h2 => exact .cons h1 (Reps.dats h2)
theorem Dqs.reps : ∀ {vs : List V} {ds : List PyData}, Dqs K H vs ds → Reps K H vs (ds.map DV.dat)
  | _, _, .nil => .nil
  | _, _, .cons h hs => .cons h (Dqs.reps hs)
/-- a new tuple, a new list of data -/
theorem Dq.newT {p : Addr} {vs : List V} {ds : List PyData} (i : W.inv H) (hp : H p = none) (h : Dqs K (W.view H) vs ds) : Dq K (W.view (upd H p (.tup vs))) (.ref p) (.tuple ds) :=
  .tup (SqT.of (Wd.view_new i hp)) (h.mono (Wd.view_ex (Ex.new hp)))
theorem Dq.newL {p : Addr} {vs : List V} {ds : List PyData} (i : W.inv H) (hp : H p = none) (h : Dqs K (W.view H) vs ds) : Dq K (W.view (upd H p (.lst vs))) (.ref p) (.list ds) :=
  .lst (Wd.view_new i hp) (h.mono (Wd.view_ex (Ex.new hp)))
theorem de_tup {ta : TA} (h : DA K W Δ ta fun es => ∃ ds, es = ds.map DV.dat ∧ ds.length ≤ 100000 ∧ P (.dat (.tuple ds))) : DE K W Δ (tTup ta) P := fun σ H v i Q q =>
  h σ H v i _ fun xs H1 es i1 x1 p1 r1 => by
    obtain ⟨ds, rfl, hl, k⟩ := p1
    have hd := Reps.dats r1
    exact ⟨sz_of (by rw [hd.length]; exact hl), fun p hp => q _ _ _ (Wd.inv_new i1 hp) (x1.trans (Wd.view_ex (Ex.new hp))) k (Dq.newT i1 hp hd)⟩
theorem de_lst {ta : TA} (h : DA K W Δ ta fun es => ∃ ds, es = ds.map DV.dat ∧ ds.length ≤ 100000 ∧ P (.dat (.list ds))) : DE K W Δ (tLst ta) P := fun σ H v i Q q =>
  h σ H v i _ fun xs H1 es i1 x1 p1 r1 => by
    obtain ⟨ds, rfl, hl, k⟩ := p1
    have hd := Reps.dats r1
    exact ⟨sz_of (by rw [hd.length]; exact hl), fun p hp => q _ _ _ (Wd.inv_new i1 hp) (x1.trans (Wd.view_ex (Ex.new hp))) k (Dq.newL i1 hp hd)⟩
theorem de_cb {r : List V → Hp → VK → Prop} {ta : TA} (h : DA K W Δ ta fun es => CalD K W r es P) : DE K W Δ (tCB r ta) P := fun σ H v i Q q =>
  h σ H v i _ fun xs H1 es i1 x1 p1 r1 => p1 xs H1 i1 r1 Q fun z H3 e i3 x3 p r3 => q z H3 e i3 (x1.trans x3) p r3
theorem de_chain (h : DE K W Δ ta fun a => DE K W Δ tb fun b => OpD K W r a b fun z => ∃ k, z = .dat (.bool k) ∧ (k = true → DE K W Δ tc fun c => OpD K W r' b c P) ∧ (k = false → P (.dat (.bool false)))) : DE K W Δ (tChain r r' ta tb tc) P := fun σ H v i Q q =>
  h σ H v i _ fun x H1 a i1 x1 p1 r1 => p1 σ H1 (v.mono x1) i1 _ fun y H2 b i2 x2 p2 r2 => p2 x y H2 i2 (r1.mono x2) r2 _ fun z H3 e i3 x3 p r3 => by
    obtain ⟨k, rfl, k1, k2⟩ := p
    cases r3
    cases k with
    | true => exact ⟨true, rfl, k1 rfl σ H3 (v.mono ((x1.trans x2).trans x3)) i3 _ fun c H4 e4 i4 x4 p4 r4 => p4 y c H4 i4 (r2.mono (x3.trans x4)) r4 Q fun z5 H5 e5 i5 x5 p5 r5 => q z5 H5 e5 i5 ((((x1.trans x2).trans x3).trans x4).trans x5) p5 r5⟩
    | false => exact ⟨false, rfl, q _ H3 _ i3 ((x1.trans x2).trans x3) (k2 rfl) (.bl false)⟩

/-! ### tests -/
theorem dt_test (h : DE K W Δ te fun e => ∃ b, e = .dat (.bool b) ∧ PB b) : DT K W Δ (tTest te) PB := fun σ H v i Q q =>
  h σ H v i _ fun x H1 e i1 x1 p1 r1 => by
    obtain ⟨b, rfl, k⟩ := p1
    cases r1
    exact ⟨b, rfl, q b H1 i1 x1 k⟩
theorem dt_B (h : DE K W Δ te fun e => ∃ b, e = .dat (.bool b) ∧ PB b) : DT K W Δ (tB te) PB := fun σ H v i Q q =>
  h σ H v i _ fun x H1 e i1 x1 p1 r1 => by
    obtain ⟨b, rfl, k⟩ := p1
    cases r1
    exact ⟨b, rfl, q b H1 i1 x1 k⟩
theorem dt_and (h : DT K W Δ tt fun a => (a = true → DT K W Δ tu PB) ∧ (a = false → PB false)) : DT K W Δ (tAnd tt tu) PB := fun σ H v i Q q =>
  h σ H v i _ fun b H1 i1 x1 p1 => by
    cases b with
    | true =>
      show tu σ H1 Q
      exact p1.1 rfl σ H1 (v.mono x1) i1 Q fun b H3 i3 x3 p => q b H3 i3 (x1.trans x3) p
    | false =>
      show Q false H1
      exact q false H1 i1 x1 (p1.2 rfl)
theorem dt_or (h : DT K W Δ tt fun a => (a = false → DT K W Δ tu PB) ∧ (a = true → PB true)) : DT K W Δ (tOr tt tu) PB := fun σ H v i Q q =>
  h σ H v i _ fun b H1 i1 x1 p1 => by
    cases b with
    | true =>
      show Q true H1
      exact q true H1 i1 x1 (p1.2 rfl)
    | false =>
      show tu σ H1 Q
      exact p1.1 rfl σ H1 (v.mono x1) i1 Q fun b H3 i3 x3 p => q b H3 i3 (x1.trans x3) p
theorem dt_not (h : DT K W Δ tt fun a => PB (!a)) : DT K W Δ (tNot tt) PB := fun σ H v i Q q => h σ H v i _ fun b H1 i1 x1 p1 => q (!b) H1 i1 x1 p1
theorem dt_yes (k : PB true) : DT K W Δ tYes PB := fun σ H v i Q q => q true H i (Ex.refl _) k

/-! ### statements -/
theorem ds_next (k : nx W Δ) : DS K W Δ tNext nx rt bk ct := fun σ H D v i c => c.nx W Δ σ H k i (Ex.refl _) v
theorem ds_break (k : bk W Δ) : DS K W Δ tBreak nx rt bk ct := fun σ H D v i c => c.bk W Δ σ H k i (Ex.refl _) v
theorem ds_seq (h : DS K W Δ t (fun W' Δ' => DS K W' Δ' u nx rt bk ct) rt bk ct) : DS K W Δ (tSeq t u) nx rt bk ct := fun σ H D v i c =>
  h σ H { D with nx := u D } v i ⟨fun W' Δ' σ' H' n i' x v' => n σ' H' D v' i' (c.step x), c.rt, c.bk, c.ct⟩
theorem ds_set {i : Nat} (h : DE K W Δ te fun e => nx W (Δ.set i (some e))) : DS K W Δ (tAsg te (gName i)) nx rt bk ct := fun σ H D v i' c =>
  h σ H v i' _ fun x H1 e i1 x1 p1 r1 => c.nx W _ _ H1 p1 i1 x1 ((v.mono x1).set r1)
theorem ds_ret (h : DE K W Δ te fun e => rt W e) : DS K W Δ (tRet te) nx rt bk ct := fun σ H D v i' c =>
  h σ H v i' _ fun x H1 e i1 x1 p1 r1 => c.rt W e x H1 p1 i1 x1 r1
theorem ds_drop (h : DE K W Δ te fun _ => nx W Δ) : DS K W Δ (tDrop te) nx rt bk ct := fun σ H D v i' c =>
  h σ H v i' _ fun x H1 e i1 x1 p1 r1 => c.nx W Δ σ H1 p1 i1 x1 (v.mono x1)
theorem ds_if (h : DT K W Δ tt fun b => (b = true → DS K W Δ t nx rt bk ct) ∧ (b = false → DS K W Δ u nx rt bk ct)) : DS K W Δ (tIfS tt t u) nx rt bk ct := fun σ H D v i c =>
  h σ H v i _ fun b H1 i1 x1 p1 => by
    cases b with
    | true =>
      show t D σ H1
      exact p1.1 rfl σ H1 D (v.mono x1) i1 (c.step x1)
    | false =>
      show u D σ H1
      exact p1.2 rfl σ H1 D (v.mono x1) i1 (c.step x1)
/-- a word between -/
theorem ds_cut (Mid : Wd → DEnv → Prop) (h : DS K W Δ t Mid rt bk ct) (k : ∀ W' Δ', Mid W' Δ' → DS K W' Δ' u nx rt bk ct) : DS K W Δ (tSeq t u) nx rt bk ct :=
  ds_seq (h.mono k (fun _ _ q => q) (fun _ _ q => q) fun _ _ q => q)
end
end Ka

namespace Ka
open PySem PySem.Spec PyProof.Rows L2 Evl
/-! ### rules of our own over the machine -/
section
variable {X : Cx}
/-- repr of data -/
def rRepr (K : PySem.W.Frag) : List V → Hp → VK → Prop := fun xs H Q => ∃ v d, xs = [v] ∧ Dq K H v d ∧ d.showable = true ∧ d.hasDict = false ∧ d.depth ≤ 60 ∧ d.shown.length ≤ sizeLine ∧ Q (.str d.shown) H
theorem cr_repr (hg : X.A.guards = some []) (hu : X.A.units + 64 < cLine) : CallR X (.builtin "repr") (rRepr X.K) := by
  intro pins s σ H xs us Q I r h
  obtain ⟨v, d, rfl, hd, hs, hn, hp, hz, q⟩ := h
  obtain ⟨u, rfl, rv⟩ := vals1 r
  obtain ⟨as, rd⟩ := Dp.reads I d v u hd.dp rv
  cases hd with
  | non => 
    cases rv
    simp only [PyData.shown] at q
    exact PySem.P.repr_of_none ⟨.str _, H, I.tok _, ⟨_, rfl⟩, q⟩
  | bl b =>
    cases rv
    simp only [PyData.shown] at q
    exact PySem.P.repr_of_bool ⟨.str _, H, I.tok _, ⟨_, rfl⟩, q⟩
  | int i =>
    obtain ⟨t, rfl⟩ := rv
    simp only [PyData.shown] at q
    exact PySem.P.repr_of_int (by simpa [PyData.showable] using hs) ⟨.str _, H, I.tok _, ⟨_, rfl⟩, q⟩
  | str x =>
    obtain ⟨t, rfl⟩ := rv
    simp only [PyData.shown] at q hz
    exact PySem.P.repr_of_str ⟨.str _, H, I.tok _, ⟨_, rfl⟩, q⟩ hz
  | lst _ _ =>
    cases rv
    exact repr_of_reads' rd hs (PyData.noDict_hsm hn) hg (by omega) (fun _ _ e => e) (fun h' u tk hk => ⟨.str _, H, I.kept hk, ⟨_, rfl⟩, q⟩) hz
  | tup _ _ =>
    cases rv
    exact repr_of_reads' rd hs (PyData.noDict_hsm hn) hg (by omega) (fun _ _ e => e) (fun h' u tk hk => ⟨.str _, H, I.kept hk, ⟨_, rfl⟩, q⟩) hz

/-- x in c, x not in c: c a list or a tuple of data -/
def rInQ (K : PySem.W.Frag) (neg : Bool) : R2 := fun x y H Q => ∃ d ds, Dq K H x d ∧ (Dq K H y (.list ds) ∨ Dq K H y (.tuple ds)) ∧ SeqAt.shaped d = true ∧ PyData.canLayAll0 ds = true ∧
  Q (.bl (if neg then !ds.any fun z => PyData.eqv z d else ds.any fun z => PyData.eqv z d)) H
theorem min_room {A : Around} {d : PyData} {n : Nat} (sd : SeqAt.shaped d = true) (hu : A.units + 65 < cLine) : A.units + 1 + min n d.depth < cLine := by
  have h1 := SeqAt.depth_of_shaped sd
  have h2 : min n d.depth ≤ d.depth := Nat.min_le_right _ _
  omega
theorem op_inQ (hu : X.A.units + 65 < cLine) : OpR X (compareOp .In) (rInQ X.K false) := by
  intro pins s σ H x y v u Q I rx ry h
  obtain ⟨d, ds, hd, he, sd, se, q⟩ := h
  obtain ⟨as, r1⟩ := Dp.reads I d x v hd.dp rx
  rcases he with he | he
  · obtain ⟨bs, r2⟩ := Dp.reads I (.list ds) y u he.dp ry
    exact SeqAt.in_list_reads r2 r1 se (SeqAt.canLay_of_shaped sd) (min_room sd hu) ⟨.bl _, H, I, rfl, q⟩
  · obtain ⟨bs, r2⟩ := Dp.reads I (.tuple ds) y u he.dp ry
    exact SeqAt.in_tuple_reads r2 r1 se (SeqAt.canLay_of_shaped sd) (min_room sd hu) ⟨.bl _, H, I, rfl, q⟩
theorem op_notInQ (hu : X.A.units + 65 < cLine) : OpR X (compareOp .NotIn) (rInQ X.K true) := by
  intro pins s σ H x y v u Q I rx ry h
  obtain ⟨d, ds, hd, he, sd, se, q⟩ := h
  obtain ⟨as, r1⟩ := Dp.reads I d x v hd.dp rx
  rcases he with he | he
  · obtain ⟨bs, r2⟩ := Dp.reads I (.list ds) y u he.dp ry
    exact SeqAt.notIn_list_reads r2 r1 se (SeqAt.canLay_of_shaped sd) (min_room sd hu) ⟨.bl _, H, I, rfl, q⟩
  · obtain ⟨bs, r2⟩ := Dp.reads I (.tuple ds) y u he.dp ry
    exact SeqAt.notIn_tuple_reads r2 r1 se (SeqAt.canLay_of_shaped sd) (min_room sd hu) ⟨.bl _, H, I, rfl, q⟩

/-- + of ints, texts, tuples, lists -/
def rAddX (K : PySem.W.Frag) : R2 := fun x y H Q => ((rI0 fun i j => .int (i + j)) x y H Q ∨ ∃ i j, x = .str i ∧ y = .str j ∧ i.length + j.length ≤ sizeLine ∧ Q (.str (i ++ j)) H) ∨ (rCatA K x y H Q ∨ rCat x y H Q)
theorem op_addX : OpR X (binaryOp .Add) (rAddX X.K) := (op_add.or op_add_str).or (op_catA.or op_cat)

/-- slices of lists, tuples -/
def rSlX (K : PySem.W.Frag) : V → Option Int → Option Int → Hp → VK → Prop := fun x lo hi H Q => rSlL K x lo hi H Q ∨ rSlA K x lo hi H Q
theorem sl_X : SlR X (rSlX X.K) := sl_list.or sl_tupA

/-- len of a list, a tuple, a text -/
def rLenX (K : PySem.W.Frag) : List V → Hp → VK → Prop := fun xs H Q => (∃ p ys, xs = [.ref p] ∧ (SqL K H p ys ∨ SqT K H p ys) ∧ Q (.int ys.length) H) ∨ ∃ z, xs = [.str z] ∧ z.length ≤ sizeLine ∧ Q (.int z.length) H
theorem cr_lenX : CallR X (.builtin "len") (rLenX X.K) := call_len_seq.or call_len_str

/-- tuple(x), list(x) -/
def rTupX (K : PySem.W.Frag) : List V → Hp → VK → Prop := fun xs H Q => ∃ p ys, xs = [.ref p] ∧ ((SqL K H p ys ∧ ∀ l, H l = none → Q (.ref l) (upd H l (.tup ys))) ∨ (SqT K H p ys ∧ Q (.ref p) H))
theorem cr_tupX : CallR X (.type "tuple") (rTupX X.K) := call_tuple_of
def rLstX (K : PySem.W.Frag) : List V → Hp → VK → Prop := fun xs H Q => ∃ p ys, xs = [.ref p] ∧ (SqL K H p ys ∨ SqT K H p ys) ∧ ∀ l, H l = none → Q (.ref l) (upd H l (.lst ys))
theorem cr_lstX : CallR X (.type "list") (rLstX X.K) := call_list_of
/-- int(n) -/
def rIntX : List V → Hp → VK → Prop := fun xs H Q => (∃ i, xs = [.int i] ∧ Q (.int i) H) ∨ ∃ k, xs = [.bl k] ∧ Q (.int (if k then 1 else 0)) H
theorem cr_intX : CallR X (.type "int") rIntX := call_int1

/-- the values of a data list, each with what it stands for -/
theorem each_three {K : PySem.W.Frag} {H : Hp} : ∀ {vs : List V} {us : List Value} {ds : List PyData}, Vals vs us → Dqs K H vs ds → PySem.W.EachIs (fun u d => ∃ v, RelV v u ∧ Dq K H v d) us ds
  | _, _, _, .nil, .nil => .nil
  | _, _, _, .cons r rs, .cons h hs => .cons ⟨_, r, h⟩ (each_three rs hs)
theorem three_back {K : PySem.W.Frag} {H : Hp} : ∀ {us : List Value} {ds : List PyData}, PySem.W.EachIs (fun u d => ∃ v, RelV v u ∧ Dq K H v d) us ds → ∃ vs, Vals vs us ∧ Dqs K H vs ds
  | _, _, .nil => ⟨[], .nil, .nil⟩
  | _, _, .cons ⟨v, r, h⟩ t => by
    obtain ⟨vs, r', h'⟩ := three_back t
    exact ⟨v :: vs, .cons r r', .cons h h'⟩
theorem each_reads {h : Heap} : ∀ {us : List Value} {ds : List PyData} {as : List Addr}, ReadsAll h us ds as → PySem.W.EachIs (fun u d => ∃ as, Reads h u d as) us ds
  | _, [], _, r => by
    cases r
    exact .nil
  | _, d :: ds, _, r => by
    cases r with
    | cons h1 h2 => exact .cons ⟨_, h1⟩ (each_reads h2)
theorem sortedAll_get (h : Heap) (vs : List Value) (out : List Value) : ∃ c, (sortedAll h vs out.toArray).get? (h.objs.size + 1) = some { cls := .type "list", data := .seq out.toArray c } := by
  obtain ⟨c, hc⟩ := PyProof.Rows.sortedAll_at h vs out.toArray
  exact ⟨c, hc⟩
def rSortedQ (K : PySem.W.Frag) : List V → Hp → VK → Prop := fun vs H Q => ∃ (a : Addr) (xs : List V) (ds : List PyData) (U : Hp), vs = [V.ref a] ∧ H a = some (.lst xs) ∧ Ex U H ∧ Dqs K U xs ds ∧ PySem.W.AllAlike ds ∧ PySem.W.Sortable ds ∧ (∀ d ∈ ds, d.depth ≤ 60) ∧
  ∀ (ys : List V) (p : Addr), Dqs K U ys (ds.mergeSort (PySem.W.dataLe false id)) → H p = none → Q (.ref p) (upd H p (.lst ys))
theorem cr_sortedQ (hu : X.A.units + 64 < cLine) : CallR X (.builtin "sorted") (rSortedQ X.K) := by
  intro pins s σ H vs us Q I r h
  obtain ⟨a, xs, ds, U, rfl, ha, hU, hd, al, so, dep, q⟩ := h
  rw [Vals.ref1 r]
  obtain ⟨its, n, rv, ho, hz⟩ := I.lst ha
  obtain ⟨as, rs⟩ := Dp.readsAll I ds xs its (hd.mono hU).dp rv
  have hlen : its.length = ds.length := by
    rw [← rv.length, hd.length]
  have e3 := each_three rv hd
  have er : PySem.W.EachIs (fun u d => ∃ as, Reads s.heap u (id d) as) its ds := each_reads rs
  refine PySem.W.sorted_data (vs := its) (bs := ds) (enc := id) (R := fun u d => ∃ v, RelV v u ∧ Dq X.K U v d) ⟨_, ho, rfl, n, rfl⟩ e3 er (by simpa using al) (by simpa using so) (by rw [← hlen, ← rv.length]; exact hz) (fun d hd' => by have := dep d hd'; show X.A.units + 2 + d.depth < cLine; omega) fun out hol e => ?_
  obtain ⟨ys, ry, hy⟩ := three_back e
  obtain ⟨c, hc⟩ := sortedAll_get s.heap its out
  have hn : H (s.heap.objs.size + 1) = none := I.hok.fresh (Nat.le_succ _)
  refine ⟨.ref (s.heap.objs.size + 1), upd H (s.heap.objs.size + 1) (.lst ys), I.laid (t' := s.toks) (fun b o e => PyProof.Rows.sortedAll_old e) (Nat.le_succ _) ⟨?_, out, c, ry, hc⟩, rfl, q ys _ hy hn⟩
  rw [ry.length, hol, ← hlen, ← rv.length]
  exact hz
/-- set(t), t a tuple of ints; sorted(set) -/
def rSetI (w : World) (K : PySem.W.Frag) : List V → Hp → VK → Prop := fun vs H Q => ∃ (p : Addr) (ns : List Int), vs = [.ref p] ∧ SqT K H p (ns.map V.int) ∧ ns.length ≤ 1000 ∧ ∀ (q : Addr) (c : Nat), c ≤ ns.length → H q = none → Q (.ref q) (upd H q (SetO w q (fun j => decide (j ∈ ns)) c))
theorem cr_setI (hc : X.calm = true) : CallR X (.type "set") (rSetI X.w X.K) := by
  intro pins s σ H vs us Q I r h
  obtain ⟨p, ns, rfl, hs, hl, q⟩ := h
  rw [Vals.ref1 r]
  obtain ⟨its, rv, pt, hz⟩ := I.tuple hs
  refine call_set_tupI ns (I.ok.hd hc) (show s.heap.IsTuple p its.toArray from pt) (ints_of_vals rv) (by unfold scanBound; omega) fun h' tk c R1 hcn k => ?_
  have hn : H s.heap.objs.size = none := I.hok.fresh (Nat.le_refl _)
  exact ⟨.ref s.heap.objs.size, _, I.laid (t' := tk) k (Nat.le_refl _) (setO_new R1), rfl, q _ c hcn hn⟩
end
end Ka

namespace Ka
open PySem PySem.Spec PyProof.Rows L2 Evl
/-! ### operations on data -/
section
variable {K : PySem.W.Frag} {W W1 : Wd} {Δ Δ1 : DEnv} {te ta tb tc tx : TE} {tt tu : TT} {t u : TS} {r r' : R2} {P P' : DV → Prop} {PB : Bool → Prop} {PL : List DV → Prop}
  {nx nx' : Wd → DEnv → Prop} {rt : Wd → DV → Prop} {bk ct : Wd → DEnv → Prop} {H H1 : Hp} {D : Ends}
theorem opd_I {f : Int → Int → Int} {i j : Int} (k : P (.dat (.int (f i j)))) : OpD K W (rI0 fun i j => .int (f i j)) (.dat (.int i)) (.dat (.int j)) P := fun x y H iv rx ry Q q => by
  cases rx
  cases ry
  exact ⟨i, j, rfl, rfl, q _ H _ iv (Ex.refl _) k (.int _)⟩
theorem opd_B {f : Int → Int → Bool} {i j : Int} (k : P (.dat (.bool (f i j)))) : OpD K W (rI0 fun i j => .bl (f i j)) (.dat (.int i)) (.dat (.int j)) P := fun x y H iv rx ry Q q => by
  cases rx
  cases ry
  exact ⟨i, j, rfl, rfl, q _ H _ iv (Ex.refl _) k (.bl _)⟩
theorem opd_IC {C : Int → Int → Prop} {f : Int → Int → Int} {i j : Int} (hc : C i j) (k : P (.dat (.int (f i j)))) : OpD K W (rI C fun i j => .int (f i j)) (.dat (.int i)) (.dat (.int j)) P := fun x y H iv rx ry Q q => by
  cases rx
  cases ry
  exact ⟨i, j, rfl, rfl, hc, q _ H _ iv (Ex.refl _) k (.int _)⟩
theorem opd_addI {i j : Int} (k : P (.dat (.int (i + j)))) : OpD K W (rAddX K) (.dat (.int i)) (.dat (.int j)) P := fun x y H iv rx ry Q q => by
  cases rx
  cases ry
  exact .inl (.inl ⟨i, j, rfl, rfl, q _ H _ iv (Ex.refl _) k (.int _)⟩)
theorem opd_addT {xs ys : List PyData} (hl : xs.length + ys.length ≤ 100000) (k : P (.dat (.tuple (xs ++ ys)))) : OpD K W (rAddX K) (.dat (.tuple xs)) (.dat (.tuple ys)) P := fun x y H iv rx ry Q q => by
  cases rx with
  | @tup a vs _ ha hv =>
    cases ry with
    | @tup b us _ hb hu =>
      have la := hv.length
      have lb := hu.length
      refine .inr (.inl ⟨a, b, vs, us, rfl, rfl, ex_t (Wd.view_le) ha, ex_t (Wd.view_le) hb, sz_of (by omega), fun e => ?_, fun e1 e2 => ?_, fun _ _ p hp => ?_⟩)
      · subst e
        cases hv
        exact q _ H _ iv (Ex.refl _) k (.tup hb hu)
      · subst e2
        cases hu
        rw [List.append_nil] at k
        exact q _ H _ iv (Ex.refl _) k (.tup ha hv)
      · exact q _ _ _ (Wd.inv_new iv hp) (Wd.view_ex (Ex.new hp)) k (Dq.newT iv hp (hv.append hu))
theorem opd_addL {xs ys : List PyData} (hl : xs.length + ys.length ≤ 100000) (k : P (.dat (.list (xs ++ ys)))) : OpD K W (rAddX K) (.dat (.list xs)) (.dat (.list ys)) P := fun x y H iv rx ry Q q => by
  cases rx with
  | @lst a vs _ ha hv =>
    cases ry with
    | @lst b us _ hb hu =>
      have la := hv.length
      have lb := hu.length
      refine .inr (.inr ⟨a, b, vs, us, rfl, rfl, Wd.view_le _ _ ha, Wd.view_le _ _ hb, sz_of (by omega), fun p hp => ?_⟩)
      exact q _ _ _ (Wd.inv_new iv hp) (Wd.view_ex (Ex.new hp)) k (Dq.newL iv hp (hv.append hu))
theorem Dq.le {v : V} {d : PyData} (h : Dq K (W.view H) v d) : Dq K H v d := h.mono Wd.view_le
theorem opd_eq0 {d e : PyData} (h1 : SeqAt.shaped d = true) (h2 : SeqAt.shaped e = true) (k : P (.dat (.bool (PyData.eqv d e)))) : OpD K W (rEqD K) (.dat d) (.dat e) P := fun x y H iv rx ry Q q =>
  ⟨d, e, Dq.dp (Dq.le rx), Dq.dp (Dq.le ry), h1, h2, q _ H _ iv (Ex.refl _) k (.bl _)⟩
theorem opd_ne0 {d e : PyData} (h1 : SeqAt.shaped d = true) (h2 : SeqAt.shaped e = true) (k : P (.dat (.bool (!PyData.eqv d e)))) : OpD K W (rNeD K) (.dat d) (.dat e) P := fun x y H iv rx ry Q q =>
  ⟨d, e, Dq.dp (Dq.le rx), Dq.dp (Dq.le ry), h1, h2, q _ H _ iv (Ex.refl _) k (.bl _)⟩
theorem opd_inT {d : PyData} {ds : List PyData} (h1 : SeqAt.shaped d = true) (h2 : PyData.canLayAll0 ds = true) (k : P (.dat (.bool (ds.any fun z => PyData.eqv z d)))) : OpD K W (rInQ K false) (.dat d) (.dat (.tuple ds)) P := fun x y H iv rx ry Q q =>
  ⟨d, ds, Dq.le rx, .inr (Dq.le ry), h1, h2, q _ H _ iv (Ex.refl _) k (.bl _)⟩
theorem opd_niL {d : PyData} {ds : List PyData} (h1 : SeqAt.shaped d = true) (h2 : PyData.canLayAll0 ds = true) (k : P (.dat (.bool (!ds.any fun z => PyData.eqv z d)))) : OpD K W (rInQ K true) (.dat d) (.dat (.list ds)) P := fun x y H iv rx ry Q q =>
  ⟨d, ds, Dq.le rx, .inl (Dq.le ry), h1, h2, q _ H _ iv (Ex.refl _) k (.bl _)⟩
theorem opd_niT {d : PyData} {ds : List PyData} (h1 : SeqAt.shaped d = true) (h2 : PyData.canLayAll0 ds = true) (k : P (.dat (.bool (!ds.any fun z => PyData.eqv z d)))) : OpD K W (rInQ K true) (.dat d) (.dat (.tuple ds)) P := fun x y H iv rx ry Q q =>
  ⟨d, ds, Dq.le rx, .inr (Dq.le ry), h1, h2, q _ H _ iv (Ex.refl _) k (.bl _)⟩
theorem Dqs.atI {vs : List V} {ds : List PyData} {i : Int} {d : PyData} (h : Dqs K H vs ds) (e : atI ds i = some d) : ∃ v, atI vs i = some v ∧ Dq K H v d := by
  unfold L2.atI at e ⊢
  rw [h.length]
  cases q : ixN ds.length i with
  | none =>
    rw [q] at e
    cases e
  | some j =>
    rw [q] at e
    obtain ⟨v, h1, h2⟩ := h.getd (show ds[j]? = some d from e)
    exact ⟨v, h1, h2⟩
theorem opd_ixT {ds : List PyData} {i : Int} {d : PyData} (h : atI ds i = some d) (k : P (.dat d)) : OpD K W (rIx K) (.dat (.tuple ds)) (.dat (.int i)) P := fun x y H iv rx ry Q q => by
  cases ry
  cases rx with
  | @tup a vs _ ha hv =>
    obtain ⟨v, h1, h2⟩ := hv.atI h
    exact .inr (.inl ⟨a, vs, i, v, rfl, rfl, ex_t Wd.view_le ha, h1, q _ H _ iv (Ex.refl _) k h2⟩)
theorem opd_ixL {ds : List PyData} {i : Int} {d : PyData} (h : atI ds i = some d) (k : P (.dat d)) : OpD K W (rIx K) (.dat (.list ds)) (.dat (.int i)) P := fun x y H iv rx ry Q q => by
  cases ry
  cases rx with
  | @lst a vs _ ha hv =>
    obtain ⟨v, h1, h2⟩ := hv.atI h
    exact .inl ⟨a, vs, i, v, rfl, rfl, SqL.of (Wd.view_le _ _ ha), h1, q _ H _ iv (Ex.refl _) k h2⟩
theorem und_neg {i : Int} (k : P (.dat (.int (-i)))) : UnD K W (rU fun i => .int (-i)) (.dat (.int i)) P := fun x H iv rx Q q => by
  cases rx
  exact ⟨i, rfl, q _ H _ iv (Ex.refl _) k (.int _)⟩

/-! ### slices -/
def cutG {α : Type} (xs : List α) (lo hi : Option Int) : List α := (xs.drop (HT.sIx xs.length 0 lo)).take (HT.sIx xs.length xs.length hi - HT.sIx xs.length 0 lo)
theorem Dqs.cut {vs : List V} {ds : List PyData} (h : Dqs K H vs ds) (lo hi : Option Int) : Dqs K H (cutV vs lo hi) (cutG ds lo hi) := by
  unfold cutV cutG
  rw [h.length]
  exact (h.drop _).take _
def DO (K : PySem.W.Frag) (W : Wd) (Δ : DEnv) (to : TO) (P : Option Int → Prop) : Prop :=
  ∀ (σ : L2.St) (H : Hp), EnvOk K (W.view H) σ Δ → W.inv H → ∀ Q : Option Int → Hp → Prop, (∀ o H', W.inv H' → Ex (W.view H) (W.view H') → P o → Q o H') → to σ H Q
theorem do_none {PO : Option Int → Prop} (k : PO none) : DO K W Δ tNoPart PO := fun σ H v i Q q => q none H i (Ex.refl _) k
theorem do_some {PO : Option Int → Prop} (h : DE K W Δ te fun e => ∃ n, e = .dat (.int n) ∧ PO (some n)) : DO K W Δ (tPart te) PO := fun σ H v i Q q =>
  h σ H v i _ fun x H1 e i1 x1 p1 r1 => by
    obtain ⟨n, rfl, k⟩ := p1
    cases r1
    exact ⟨n, rfl, q _ H1 i1 x1 k⟩
/-- what a slice of a content is -/
def SlD (K : PySem.W.Frag) (W : Wd) (r : V → Option Int → Option Int → Hp → VK → Prop) (a : DV) (lo hi : Option Int) (P : DV → Prop) : Prop :=
  ∀ (x : V) (H : Hp), W.inv H → RepV K (W.view H) x a → ∀ Q : VK, (∀ v H' e, W.inv H' → Ex (W.view H) (W.view H') → P e → RepV K (W.view H') v e → Q v H') → r x lo hi H Q
theorem de_sl {rs : V → Option Int → Option Int → Hp → VK → Prop} {tl th : TO} (h : DE K W Δ te fun a => DO K W Δ tl fun lo => DO K W Δ th fun hi => SlD K W rs a lo hi P) : DE K W Δ (tSl rs te tl th) P := fun σ H v i Q q =>
  h σ H v i _ fun x H1 a i1 x1 p1 r1 => p1 σ H1 (v.mono x1) i1 _ fun lo H2 i2 x2 p2 => p2 σ H2 (v.mono (x1.trans x2)) i2 _ fun hi H3 i3 x3 p3 => p3 x H3 i3 (r1.mono (x2.trans x3)) Q fun z H4 e i4 x4 p r => q z H4 e i4 (((x1.trans x2).trans x3).trans x4) p r
theorem cut_whole {α : Type} {xs : List α} {lo hi : Option Int} (h : HT.sIx xs.length 0 lo = 0 ∧ HT.sIx xs.length xs.length hi = xs.length) : cutG xs lo hi = xs := by
  unfold cutG
  rw [h.1, h.2]
  simp
theorem sld_T {ds : List PyData} {lo hi : Option Int} (k : P (.dat (.tuple (cutG ds lo hi)))) : SlD K W (rSlX K) (.dat (.tuple ds)) lo hi P := fun x H iv rx Q q => by
  cases rx with
  | @tup a vs _ ha hv =>
    refine .inr ⟨a, vs, rfl, ex_t Wd.view_le ha, fun hw => ?_, fun _ p hp => q _ _ _ (Wd.inv_new iv hp) (Wd.view_ex (Ex.new hp)) k (Dq.newT iv hp (hv.cut lo hi))⟩
    rw [hv.length] at hw
    rw [cut_whole hw] at k
    exact q _ H _ iv (Ex.refl _) k (.tup ha hv)

/-! ### calls of built-ins -/
theorem reps1 {xs : List V} {a : DV} (h : Reps K H xs [a]) : ∃ x, xs = [x] ∧ RepV K H x a := by
  cases h with
  | cons h1 h2 =>
    cases h2
    exact ⟨_, rfl, h1⟩
theorem reps2 {xs : List V} {a b : DV} (h : Reps K H xs [a, b]) : ∃ x y, xs = [x, y] ∧ RepV K H x a ∧ RepV K H y b := by
  cases h with
  | cons h1 h2 =>
    cases h2 with
    | cons h2 h3 =>
      cases h3
      exact ⟨_, _, rfl, h1, h2⟩
theorem cal_lenT {ds : List PyData} (k : P (.dat (.int (ds.length : Int)))) : CalD K W (rLenX K) [.dat (.tuple ds)] P := fun xs H iv r Q q => by
  obtain ⟨x, rfl, rx⟩ := reps1 r
  cases rx with
  | @tup a vs _ ha hv =>
    rw [← hv.length] at k
    exact .inl ⟨a, vs, rfl, .inr (ex_t Wd.view_le ha), q _ H _ iv (Ex.refl _) k (.int _)⟩
theorem cal_lenL {ds : List PyData} (k : P (.dat (.int (ds.length : Int)))) : CalD K W (rLenX K) [.dat (.list ds)] P := fun xs H iv r Q q => by
  obtain ⟨x, rfl, rx⟩ := reps1 r
  cases rx with
  | @lst a vs _ ha hv =>
    rw [← hv.length] at k
    exact .inl ⟨a, vs, rfl, .inl (SqL.of (Wd.view_le _ _ ha)), q _ H _ iv (Ex.refl _) k (.int _)⟩
theorem cal_tupL {ds : List PyData} (k : P (.dat (.tuple ds))) : CalD K W (rTupX K) [.dat (.list ds)] P := fun xs H iv r Q q => by
  obtain ⟨x, rfl, rx⟩ := reps1 r
  cases rx with
  | @lst a vs _ ha hv => exact ⟨a, vs, rfl, .inl ⟨SqL.of (Wd.view_le _ _ ha), fun p hp => q _ _ _ (Wd.inv_new iv hp) (Wd.view_ex (Ex.new hp)) k (Dq.newT iv hp hv)⟩⟩
theorem cal_lstT {ds : List PyData} (k : P (.dat (.list ds))) : CalD K W (rLstX K) [.dat (.tuple ds)] P := fun xs H iv r Q q => by
  obtain ⟨x, rfl, rx⟩ := reps1 r
  cases rx with
  | @tup a vs _ ha hv => exact ⟨a, vs, rfl, .inr (ex_t Wd.view_le ha), fun p hp => q _ _ _ (Wd.inv_new iv hp) (Wd.view_ex (Ex.new hp)) k (Dq.newL iv hp hv)⟩
theorem cal_int {i : Int} (k : P (.dat (.int i))) : CalD K W rIntX [.dat (.int i)] P := fun xs H iv r Q q => by
  obtain ⟨x, rfl, rx⟩ := reps1 r
  cases rx
  exact .inl ⟨i, rfl, q _ H _ iv (Ex.refl _) k (.int _)⟩
theorem Dqs.bls : ∀ {bs : List Bool} {vs : List V}, Dqs K H vs (bs.map PyData.bool) → vs = bs.map V.bl
  | [], _, h => by
    cases h
    rfl
  | b :: bs, _, h => by
    cases h with
    | cons h1 h2 =>
      cases h1
      rw [Dqs.bls (bs := bs) h2]
      rfl
theorem cal_all {bs : List Bool} (k : P (.dat (.bool (bs.all id)))) : CalD K W (rAll K) [.dat (.list (bs.map PyData.bool))] P := fun xs H iv r Q q => by
  obtain ⟨x, rfl, rx⟩ := reps1 r
  cases rx with
  | @lst a vs _ ha hv => 
    obtain rfl := hv.bls
    exact ⟨a, bs, rfl, SqL.of (Wd.view_le _ _ ha), q _ H _ iv (Ex.refl _) k (.bl _)⟩
def rMax2 : List V → Hp → VK → Prop := fun xs H Q => ∃ i j, xs = [.int i, .int j] ∧ Q (.int (if j > i then j else i)) H
def rMin2 : List V → Hp → VK → Prop := fun xs H Q => ∃ i j, xs = [.int i, .int j] ∧ Q (.int (if j < i then j else i)) H
theorem cal_max2 {i j : Int} (k : P (.dat (.int (max i j)))) : CalD K W rMax2 [.dat (.int i), .dat (.int j)] P := fun xs H iv r Q q => by
  obtain ⟨x, y, rfl, rx, ry⟩ := reps2 r
  cases rx
  cases ry
  refine ⟨i, j, rfl, q _ H _ iv (Ex.refl _) k ?_⟩
  have e : (if j > i then j else i) = max i j := by
    split <;> omega
  rw [e]
  exact .int _
theorem cal_min2 {i j : Int} (k : P (.dat (.int (min i j)))) : CalD K W rMin2 [.dat (.int i), .dat (.int j)] P := fun xs H iv r Q q => by
  obtain ⟨x, y, rfl, rx, ry⟩ := reps2 r
  cases rx
  cases ry
  refine ⟨i, j, rfl, q _ H _ iv (Ex.refl _) k ?_⟩
  have e : (if j < i then j else i) = min i j := by
    split <;> omega
  rw [e]
  exact .int _
/-- the class of data -/
def tyD : PyData → String
  | .none => "NoneType"
  | .bool _ => "bool"
  | .int _ => "int"
  | .str _ => "str"
  | .list _ => "list"
  | .tuple _ => "tuple"
  | .dict _ => "dict"
theorem sqt_ty {a : Addr} {xs : List V} (h : SqT K H a xs) : TyX K H (.ref a) (.type "tuple") := by
  rcases h with (h | ⟨o, h⟩) | ⟨o, its, n, hk, hc, _⟩
  · exact .base (.tup h)
  · exact .fTuple h
  · exact .kTuple hk hc
theorem Dq.ty {v : V} {d : PyData} (h : Dq K H v d) : TyX K H v (.type (tyD d)) := by
  cases h with
  | non => exact .base .non
  | bl b => exact .base (.bl b)
  | int i => exact .base (.int i)
  | str x => exact .base (.str x)
  | lst h _ => exact .base (.lst h)
  | tup h _ => exact sqt_ty h
theorem cal_isi {d : PyData} {T : String} {b : Bool} (h : kitB (tyD d) T = some b) (k : P (.dat (.bool b))) : CalD K W (rIsi K) [.dat d, .raw (.ty T)] P := fun xs H iv r Q q => by
  obtain ⟨x, y, rfl, rx, ry⟩ := reps2 r
  have e : y = .ty T := ry
  subst e
  exact ⟨x, .ty T, _, _, b, rfl, .ty T, Dq.ty (Dq.le rx), kit_ty h, q _ H _ iv (Ex.refl _) k (.bl b)⟩
theorem cal_repr {d : PyData} (h1 : d.showable = true) (h2 : d.hasDict = false) (h3 : d.depth ≤ 60) (h4 : d.shown.length ≤ sizeLine) (k : P (.dat (.str d.shown))) : CalD K W (rRepr K) [.dat d] P := fun xs H iv r Q q => by
  obtain ⟨x, rfl, rx⟩ := reps1 r
  exact ⟨x, d, rfl, Dq.le rx, h1, h2, h3, h4, q _ H _ iv (Ex.refl _) k (.str _)⟩
theorem cal_sorted {ds : List PyData} (h1 : PySem.W.AllAlike ds) (h2 : PySem.W.Sortable ds) (h3 : ∀ d ∈ ds, d.depth ≤ 60) (k : P (.dat (.list (ds.mergeSort (PySem.W.dataLe false id))))) : CalD K W (rSortedQ K) [.dat (.list ds)] P := fun xs H iv r Q q => by
  obtain ⟨x, rfl, rx⟩ := reps1 r
  cases rx with
  | @lst a vs _ ha hv =>
    refine ⟨a, vs, ds, W.view H, rfl, Wd.view_le _ _ ha, Wd.view_le, hv, h1, h2, h3, fun ys p hy hp => ?_⟩
    exact q _ _ _ (Wd.inv_new iv hp) (Wd.view_ex (Ex.new hp)) k (Dq.newL iv hp hy)
/-- sorted(set(ns)) -/
theorem cal_setI {w : World} {ns : List Int} (hl : ns.length ≤ 1000) (k : ∀ c, c ≤ ns.length → P (.obj fun q => SetO w q (fun j => decide (j ∈ ns)) c)) : CalD K W (rSetI w K) [.dat (.tuple (ns.map PyData.int))] P := fun xs H iv r Q q => by
  obtain ⟨x, rfl, rx⟩ := reps1 r
  cases rx with
  | @tup a vs _ ha hv =>
    obtain rfl := hv.ints_inv
    exact ⟨a, ns, rfl, ex_t Wd.view_le ha, hl, fun p c hc hp => q _ _ _ (Wd.inv_new iv hp) (Wd.view_ex (Ex.new hp)) (k c hc) ⟨p, rfl, Wd.view_new iv hp⟩⟩
theorem cal_sortedSet {w : World} {S : Int → Bool} {n : Nat} (hn : n < 64) (k : ∀ ns : List Int, ns.Pairwise (· < ·) → (∀ k : Int, k ∈ ns ↔ S k = true) → ns.length = n → P (.dat (.list (ns.map PyData.int)))) : CalD K W (rSortedSet w) [.obj fun q => SetO w q S n] P := fun xs H iv r Q q => by
  obtain ⟨x, rfl, p, rfl, hp⟩ := reps1 r
  exact ⟨p, S, n, rfl, Wd.view_le _ _ hp, hn, fun ns l h1 h2 h3 hl => q _ _ _ (Wd.inv_new iv hl) (Wd.view_ex (Ex.new hl)) (k ns h1 h2 h3) (Dq.newL iv hl (Dqs.ints ns))⟩

/-! ### what is walked -/
/-- the iterator J gives es, whatever else happens -/
def Yl (K : PySem.W.Frag) (V1 : Hp) (J : It) (es : List DV) : Prop := ∀ (W' : Wd) (H2 : Hp), Ex V1 (W'.view H2) → W'.inv H2 →
  (∀ i e, es[i]? = some e → J.go i H2 ∧ ∀ x H3, J.yld i H2 x H3 → W'.inv H3 ∧ Ex (W'.view H2) (W'.view H3) ∧ RepV K (W'.view H3) x e) ∧ J.stop es.length H2
def DI (K : PySem.W.Frag) (W : Wd) (Δ : DEnv) (wi : TI) (P : List DV → Prop) : Prop :=
  ∀ (σ : L2.St) (H : Hp), EnvOk K (W.view H) σ Δ → W.inv H → ∀ R : It → Hp → Prop, (∀ J H' es, W.inv H' → Ex (W.view H) (W.view H') → P es → Yl K (W.view H') J es → R J H') → wi σ H R
theorem yl_list {a : Addr} {vs : List V} {ds : List PyData} {V1 : Hp} (ha : V1 a = some (.lst vs)) (hv : Dqs K V1 vs ds) : Yl K V1 (Itl K a) (ds.map DV.dat) := fun W' H2 x iv => by
  have h2 : SqL K H2 a vs := SqL.of (Wd.view_le _ _ (x a _ ha))
  have hv2 := hv.mono x
  refine ⟨fun i e he => ?_, vs, h2, by rw [List.length_map, hv.length]; exact Nat.le_refl _⟩
  rw [List.getElem?_map] at he
  cases q : ds[i]? with
  | none =>
    rw [q] at he
    cases he
  | some d =>
    rw [q] at he
    cases he
    obtain ⟨v, q1, q2⟩ := hv2.getd q
    refine ⟨⟨vs, v, h2, q1⟩, fun y H3 hy => ?_⟩
    obtain ⟨rfl, hy⟩ := hy
    have e := hy vs h2
    rw [q1] at e
    cases e
    exact ⟨iv, Ex.refl _, q2⟩
theorem yl_tup {a : Addr} {vs : List V} {ds : List PyData} {V1 : Hp} (ha : SqT K V1 a vs) (hv : Dqs K V1 vs ds) : Yl K V1 (Itt K a) (ds.map DV.dat) := fun W' H2 x iv => by
  have h2 : SqT K H2 a vs := ex_t Wd.view_le (ex_t x ha)
  have hv2 := hv.mono x
  refine ⟨fun i e he => ?_, vs, h2, by rw [List.length_map, hv.length]; exact Nat.le_refl _⟩
  rw [List.getElem?_map] at he
  cases q : ds[i]? with
  | none =>
    rw [q] at he
    cases he
  | some d =>
    rw [q] at he
    cases he
    obtain ⟨v, q1, q2⟩ := hv2.getd q
    refine ⟨⟨vs, v, h2, q1⟩, fun y H3 hy => ?_⟩
    obtain ⟨rfl, hy⟩ := hy
    have e := hy vs h2
    rw [q1] at e
    cases e
    exact ⟨iv, Ex.refl _, q2⟩
/-- lo, lo + 1, .. -/
def rgN (lo : Int) (n : Nat) : List Int := (List.range n).map fun (i : Nat) => lo + (i : Int)
theorem rgN_length {lo : Int} {n : Nat} : (rgN lo n).length = n := by simp [rgN]
theorem rgN_get {lo : Int} {n i : Nat} (h : i < n) : (rgN lo n)[i]? = some (lo + (i : Int)) := by simp [rgN, h]
theorem yl_range {lo : Int} {n : Nat} {V1 : Hp} : Yl K V1 (Itr lo n) ((rgN lo n).map fun i => DV.dat (.int i)) := fun W' H2 x iv => by
  refine ⟨fun i e he => ?_, ?_⟩
  · rw [List.getElem?_map] at he
    by_cases hi : i < n
    · rw [rgN_get hi] at he
      cases he
      refine ⟨hi, fun y H3 hy => ?_⟩
      obtain ⟨rfl, rfl⟩ := hy
      exact ⟨iv, Ex.refl _, .int _⟩
    · rw [List.getElem?_eq_none (by rw [rgN_length]; omega)] at he
      cases he
  · show n ≤ _
    rw [List.length_map, rgN_length]
    exact Nat.le_refl _
theorem di_rng1 {ta : TA} {PL : List DV → Prop} (h : DA K W Δ ta fun es => ∃ n : Int, es = [.dat (.int n)] ∧ n.natAbs ≤ 100000 ∧ PL ((rgN 0 n.toNat).map fun i => DV.dat (.int i))) : DI K W Δ (iRng1 ta) PL := fun σ H v i R q =>
  h σ H v i _ fun xs H1 es i1 x1 p1 r1 => by
    obtain ⟨n, rfl, hn, k⟩ := p1
    obtain ⟨x, rfl, rx⟩ := reps1 r1
    cases rx
    exact ⟨n, rfl, by omega, by omega, q _ H1 _ i1 x1 k yl_range⟩
theorem di_rng2 {ta : TA} {PL : List DV → Prop} (h : DA K W Δ ta fun es => ∃ lo n : Int, es = [.dat (.int lo), .dat (.int n)] ∧ lo.natAbs ≤ 100000 ∧ n.natAbs ≤ 100000 ∧ PL ((rgN lo (n - lo).toNat).map fun i => DV.dat (.int i))) : DI K W Δ (iRng2 ta) PL := fun σ H v i R q =>
  h σ H v i _ fun xs H1 es i1 x1 p1 r1 => by
    obtain ⟨lo, n, rfl, h1, h2, k⟩ := p1
    obtain ⟨x, y, rfl, rx, ry⟩ := reps2 r1
    cases rx
    cases ry
    exact ⟨lo, n, rfl, ⟨by omega, by omega, by omega, by omega⟩, q _ H1 _ i1 x1 k yl_range⟩

/-! ### targets -/
/-- what a target does to the slots: e stored, Δ becomes Δ', only the slots js change -/
def Tg (K : PySem.W.Frag) (g : TG) (e : DV) (Δ Δ' : DEnv) (js : List Nat) : Prop :=
  ∀ (W : Wd) (σ : L2.St) (H : Hp) (v : V) (Q : L2.St → Hp → Prop), EnvOk K (W.view H) σ Δ → RepV K (W.view H) v e → (∀ σ', EnvOk K (W.view H) σ' Δ' → (∀ vs, (∀ j ∈ js, j ∈ vs) → wipe σ' vs = wipe σ vs) → Q σ' H) → g v σ H Q
def Tgs (K : PySem.W.Frag) (g : TGs) (es : List DV) (Δ Δ' : DEnv) (js : List Nat) : Prop :=
  ∀ (W : Wd) (σ : L2.St) (H : Hp) (vs : List V) (Q : L2.St → Hp → Prop), EnvOk K (W.view H) σ Δ → Reps K (W.view H) vs es → (∀ σ', EnvOk K (W.view H) σ' Δ' → (∀ ws, (∀ j ∈ js, j ∈ ws) → wipe σ' ws = wipe σ ws) → Q σ' H) → g vs σ H Q
theorem set_comm_opt {α : Type} (l : List α) {i j : Nat} (h : i ≠ j) (x y : α) : (l.set i x).set j y = (l.set j y).set i x := List.set_comm _ _ h
theorem wipe_set : ∀ {vs : List Nat} {σ : L2.St} {j : Nat} {x : Option V}, j ∈ vs → wipe (σ.set j x) vs = wipe σ vs
  | v :: vs, σ, j, x, h => by
    show (wipe (σ.set j x) vs).set v none = (wipe σ vs).set v none
    by_cases hm : j ∈ vs
    · rw [wipe_set hm]
    · have e : j = v := by
        rcases List.mem_cons.mp h with e | e
        · exact e
        · exact absurd e hm
      subst e
      rw [wipe_keep hm, List.set_set]
where
  wipe_keep : ∀ {vs : List Nat} {σ : L2.St} {j : Nat} {x : Option V}, j ∉ vs → wipe (σ.set j x) vs = (wipe σ vs).set j x
    | [], _, _, _, _ => rfl
    | v :: vs, σ, j, x, h => by
      have h1 : j ≠ v := fun e => h (by simp [e])
      have h2 : j ∉ vs := fun e => h (by simp [e])
      show (wipe (σ.set j x) vs).set v none = ((wipe σ vs).set v none).set j x
      rw [wipe_keep h2, set_comm_opt _ h1]
theorem wipe_none : ∀ {vs : List Nat} {σ : L2.St}, wipe (wipe σ vs) vs = wipe σ vs
  | vs, σ => wipe_sub (vs := vs) fun _ h => h
where
  wipe_sub : ∀ {us vs : List Nat} {σ : L2.St}, (∀ j ∈ us, j ∈ vs) → wipe (wipe σ us) vs = wipe σ vs
    | [], _, _, _ => rfl
    | u :: us, vs, σ, h => by
      show wipe ((wipe σ us).set u none) vs = wipe σ vs
      rw [wipe_set (h u (by simp)), wipe_sub fun j hj => h j (by simp [hj])]
theorem tg_name {i : Nat} {e : DV} : Tg K (gName i) e Δ (Δ.set i (some e)) [i] := fun W σ H v Q en r q => q _ (en.set r) fun vs h => wipe_set (h i (by simp))
theorem tgs_nil : Tgs K gNil [] Δ Δ [] := fun W σ H vs Q en r q => by
  cases r
  exact ⟨rfl, q σ en fun _ _ => rfl⟩
theorem tgs_cons {g : TG} {gs : TGs} {e : DV} {es : List DV} {Δ2 : DEnv} {js ks : List Nat} (h : Tg K g e Δ Δ1 js) (hs : Tgs K gs es Δ1 Δ2 ks) : Tgs K (gCons g gs) (e :: es) Δ Δ2 (js ++ ks) := fun W σ H vs Q en r q => by
  cases r with
  | cons r1 r2 =>
    exact ⟨_, _, rfl, h W σ H _ _ en r1 fun σ1 en1 w1 => hs W σ1 H _ _ en1 r2 fun σ2 en2 w2 => q σ2 en2 fun ws hw => by
      rw [w2 ws fun j hj => hw j (List.mem_append_right _ hj), w1 ws fun j hj => hw j (List.mem_append_left _ hj)]⟩
theorem tg_tup {n : Nat} {gs : TGs} {ds : List PyData} {js : List Nat} (hn : ds.length = n) (h : Tgs K gs (ds.map DV.dat) Δ Δ1 js) : Tg K (gTup K n gs) (.dat (.tuple ds)) Δ Δ1 js := fun W σ H v Q en r q => by
  cases r with
  | @tup a vs _ ha hv =>
    exact ⟨a, vs, rfl, ex_t Wd.view_le ha, by rw [hv.length]; exact hn, h W σ H vs Q en (Dqs.reps hv) q⟩

/-! ### loops -/
theorem ds_for {wi : TI} {g : TG} {tb : TS}
    (hi : DI K W Δ wi fun es => ∃ I : Nat → Wd → DEnv → Prop, I 0 W Δ ∧ (∀ i e W' Δ', es[i]? = some e → I i W' Δ' → ∃ Δ1 js, Tg K g e Δ' Δ1 js ∧ DS K W' Δ1 tb (I (i + 1)) rt nx (I (i + 1))) ∧ ∀ W' Δ', I es.length W' Δ' → nx W' Δ') :
    DS K W Δ (tFor wi g tb) nx rt bk ct := fun σ H D v i c => hi σ H v i _ fun J H1 es i1 x1 p1 y1 => by
  obtain ⟨I, h0, hs, hd⟩ := p1
  refine ⟨fun k m σ' H' => m = es.length - k ∧ k ≤ es.length ∧ ∃ W' Δ', I k W' Δ' ∧ W'.inv H' ∧ Ex (W.view H1) (W'.view H') ∧ EnvOk K (W'.view H') σ' Δ', ⟨_, rfl, Nat.zero_le _, W, Δ, h0, i1, Ex.refl _, v.mono x1⟩, ?_⟩
  rintro k m σ' H' ⟨rfl, hk, W', Δ', hI, i', x', v'⟩
  obtain ⟨yg, ys⟩ := y1 W' H' x' i'
  by_cases hlt : k < es.length
  · obtain ⟨g1, g2⟩ := yg k es[k] (List.getElem?_eq_getElem hlt)
    refine .inr ⟨g1, fun σ2 H2 => k + 1 ≤ es.length ∧ ∃ W' Δ', I (k + 1) W' Δ' ∧ W'.inv H2 ∧ Ex (W.view H1) (W'.view H2) ∧ EnvOk K (W'.view H2) σ2 Δ', fun σ2 H2 ⟨q1, q2⟩ => ⟨es.length - (k + 1), by omega, rfl, q1, q2⟩, fun x H2 hy => ?_⟩
    obtain ⟨i2, x2, r2⟩ := g2 x H2 hy
    obtain ⟨Δ1, js, ht, hb⟩ := hs k es[k] W' Δ' (List.getElem?_eq_getElem hlt) hI
    refine ht W' σ' H2 x _ (v'.mono x2) r2 fun σ3 v3 _ => ?_
    refine hb σ3 H2 _ v3 i2 ⟨fun W4 Δ4 σ4 H4 n4 i4 x4 v4 => ⟨by omega, W4, Δ4, n4, i4, (x'.trans x2).trans x4, v4⟩, fun W4 e4 v4 H4 n4 i4 x4 r4 => c.rt W4 e4 v4 H4 n4 i4 (((x1.trans x').trans x2).trans x4) r4, fun W4 Δ4 σ4 H4 n4 i4 x4 v4 => c.nx W4 Δ4 σ4 H4 n4 i4 (((x1.trans x').trans x2).trans x4) v4, fun W4 Δ4 σ4 H4 n4 i4 x4 v4 => ⟨by omega, W4, Δ4, n4, i4, (x'.trans x2).trans x4, v4⟩⟩
  · have e : k = es.length := by omega
    subst e
    exact .inl ⟨ys, c.nx W' Δ' σ' H' (hd W' Δ' hI) i' (x1.trans x') v'⟩

/-! ### comprehensions -/
/-- a list of data, apart -/
def knL (K : PySem.W.Frag) (ds : List PyData) : Kn where
  of U o := ∃ xs, o = .lst xs ∧ Dqs K U xs ds
  mono e h := by
    obtain ⟨xs, h1, h2⟩ := h
    exact ⟨xs, h1, h2.mono e⟩
theorem de_lc {wi : TI} {g : TG} {ws : List Nat}
    (hi : DI K W Δ wi fun es => es.length ≤ 50000 ∧ ∃ A : Nat → List PyData → Prop, A 0 [] ∧ (∀ i e acc W', es[i]? = some e → A i acc → (∃ p φ, W' = W.hide p φ ∧ W.hid p = false) → ∃ Δ1 js, Tg K g e (wipeD Δ ws) Δ1 js ∧ (∀ j ∈ js, j ∈ ws) ∧
      DT K W' Δ1 tt fun b => (b = true → DE K W' Δ1 te fun z => ∃ d, z = .dat d ∧ A (i + 1) (acc ++ [d])) ∧ (b = false → A (i + 1) acc)) ∧ ∀ acc, A es.length acc → P (.dat (.list acc))) :
    DE K W Δ (tLc wi g tt te ws) P := fun σ H v i Q q => hi σ H v i _ fun J H1 es i1 x1 p1 y1 => by
  obtain ⟨hz, A, h0, hs, hd⟩ := p1
  intro Dl hD
  have hp := Wd.hid_none i1 hD
  obtain ⟨n1, n2⟩ := Wd.hide_new (φ := knL K []) (o := .lst []) i1 hD ⟨[], rfl, .nil⟩
  refine ⟨fun k m H' => m = es.length - k ∧ k ≤ es.length ∧ ∃ acc, A k acc ∧ acc.length ≤ k ∧ (W.hide Dl (knL K acc)).inv H' ∧ Ex (W.view H1) ((W.hide Dl (knL K acc)).view H'), ⟨_, rfl, Nat.zero_le _, [], h0, Nat.le_refl _, n1, by rw [n2]; exact Ex.refl _⟩, ?_⟩
  rintro k m H' ⟨rfl, hk, acc, hA, hl, i', x'⟩
  obtain ⟨yg, ys⟩ := y1 _ H' x' i'
  by_cases hlt : k < es.length
  · obtain ⟨g1, g2⟩ := yg k es[k] (List.getElem?_eq_getElem hlt)
    refine .inr ⟨g1, fun H2 => k + 1 ≤ es.length ∧ ∃ acc, A (k + 1) acc ∧ acc.length ≤ k + 1 ∧ (W.hide Dl (knL K acc)).inv H2 ∧ Ex (W.view H1) ((W.hide Dl (knL K acc)).view H2), fun H2 ⟨q1, q2⟩ => ⟨es.length - (k + 1), by omega, rfl, q1, q2⟩, fun x H2 hy => ?_⟩
    obtain ⟨i2, x2, r2⟩ := g2 x H2 hy
    obtain ⟨Δ1, js, ht, hjs, hb⟩ := hs k es[k] acc _ (List.getElem?_eq_getElem hlt) hA ⟨Dl, _, rfl, hp⟩
    have v2 : EnvOk K ((W.hide Dl (knL K acc)).view H2) (wipe σ ws) (wipeD Δ ws) := (v.mono ((x1.trans x').trans x2)).wipe
    refine ht (W.hide Dl (knL K acc)) (wipe σ ws) H2 x _ v2 r2 fun σ3 v3 w3 => ⟨by rw [w3 ws hjs, wipe_none], ?_⟩
    refine hb σ3 H2 v3 i2 _ fun b H3 i3 x3 p3 => ?_
    cases b with
    | true =>
      show te σ3 H3 _
      refine p3.1 rfl σ3 H3 (v3.mono x3) i3 _ fun y H4 e4 i4 x4 p4 r4 => ?_
      obtain ⟨d, rfl, hA4⟩ := p4
      obtain ⟨o, ho, xs, rfl, hx⟩ := Wd.hide_at i4
      have hlen := hx.length
      refine ⟨xs, ho, sz_lt (by omega), by omega, acc ++ [d], hA4, by rw [List.length_append]; show acc.length + 1 ≤ k + 1; omega, ?_⟩
      obtain ⟨z1, z2⟩ := Wd.hide_put (ψ := knL K (acc ++ [d])) (u := .lst (xs ++ [y])) i4 ⟨_, rfl, hx.append (.cons r4 .nil)⟩
      refine ⟨z1, ?_⟩
      rw [z2]
      exact ((x'.trans x2).trans x3).trans x4
    | false =>
      show _ ∧ _
      exact ⟨by omega, acc, p3.2 rfl, by omega, i3, (x'.trans x2).trans x3⟩
  · have e : k = es.length := by omega
    subst e
    refine .inl ⟨ys, ?_⟩
    obtain ⟨u1, u2, o, ho, xs, rfl, hx⟩ := Wd.unhide hp i'
    exact q _ H' _ u1 ((x1.trans x').trans u2) (hd acc hA) (.lst ho hx)
end
end Ka

namespace Ka
open PySem PySem.Spec PyProof.Rows L2 Evl
section
variable {K : PySem.W.Frag} {W W1 : Wd} {Δ Δ1 : DEnv} {te ta tb tc tx : TE} {tt tu : TT} {t u : TS} {r r' : R2} {P P' : DV → Prop} {PB : Bool → Prop} {PL : List DV → Prop}
  {nx nx' : Wd → DEnv → Prop} {rt : Wd → DV → Prop} {bk ct : Wd → DEnv → Prop} {H H1 : Hp} {D : Ends}
/-- W' is W, one more thing apart -/
def Hid (W W' : Wd) : Prop := ∃ p φ, W' = W.hide p φ ∧ W.hid p = false
theorem DI.mono {wi : TI} {PL' : List DV → Prop} (h : DI K W Δ wi PL) (k : ∀ es, PL es → PL' es) : DI K W Δ wi PL' := fun σ H v i R q => h σ H v i R fun J H' es i' x p y => q J H' es i' x (k es p) y
theorem de_lc2 {wi wi1 : TI} {g g1 : TG} {tt1 : TT} {ws ws1 : List Nat}
    (hi : DI K W Δ wi fun es => ∃ A : Nat → List PyData → Prop, A 0 [] ∧ (∀ i e acc W', es[i]? = some e → A i acc → Hid W W' → ∃ Δ1 js, Tg K g e (wipeD Δ ws) Δ1 js ∧ (∀ j ∈ js, j ∈ ws) ∧
      DT K W' Δ1 tt fun b => (b = true → DI K W' Δ1 wi1 fun es1 => ∃ B : Nat → List PyData → Prop, B 0 acc ∧ (∀ j e1 acc1 W'', es1[j]? = some e1 → B j acc1 → Hid W W'' → acc1.length < 100000 ∧ ∃ Δ2 ks, Tg K g1 e1 (wipeD Δ1 ws1) Δ2 ks ∧ (∀ k ∈ ks, k ∈ ws1) ∧
          DT K W'' Δ2 tt1 fun b => (b = true → DE K W'' Δ2 te fun z => ∃ d, z = .dat d ∧ B (j + 1) (acc1 ++ [d])) ∧ (b = false → B (j + 1) acc1)) ∧ ∀ acc1, B es1.length acc1 → A (i + 1) acc1) ∧ (b = false → A (i + 1) acc)) ∧ ∀ acc, A es.length acc → P (.dat (.list acc))) :
    DE K W Δ (tLc2 wi g tt wi1 g1 tt1 te ws ws1) P := fun σ H v i Q q => hi σ H v i _ fun J H1 es i1 x1 p1 y1 => by
  obtain ⟨A, h0, hs, hd⟩ := p1
  intro Dl hD
  have hp := Wd.hid_none i1 hD
  obtain ⟨n1, n2⟩ := Wd.hide_new (φ := knL K []) (o := .lst []) i1 hD ⟨[], rfl, .nil⟩
  refine ⟨fun k m H' => m = es.length - k ∧ k ≤ es.length ∧ ∃ acc, A k acc ∧ (W.hide Dl (knL K acc)).inv H' ∧ Ex (W.view H1) ((W.hide Dl (knL K acc)).view H'), ⟨_, rfl, Nat.zero_le _, [], h0, n1, by rw [n2]; exact Ex.refl _⟩, ?_⟩
  rintro k m H' ⟨rfl, hk, acc, hA, i', x'⟩
  obtain ⟨yg, ys⟩ := y1 _ H' x' i'
  by_cases hlt : k < es.length
  · obtain ⟨g1', g2'⟩ := yg k es[k] (List.getElem?_eq_getElem hlt)
    refine .inr ⟨g1', fun H2 => k + 1 ≤ es.length ∧ ∃ acc, A (k + 1) acc ∧ (W.hide Dl (knL K acc)).inv H2 ∧ Ex (W.view H1) ((W.hide Dl (knL K acc)).view H2), fun H2 ⟨q1, q2⟩ => ⟨es.length - (k + 1), by omega, rfl, q1, q2⟩, fun x H2 hy => ?_⟩
    obtain ⟨i2, x2, r2⟩ := g2' x H2 hy
    obtain ⟨Δ1, js, ht, hjs, hb⟩ := hs k es[k] acc _ (List.getElem?_eq_getElem hlt) hA ⟨Dl, _, rfl, hp⟩
    have v2 : EnvOk K ((W.hide Dl (knL K acc)).view H2) (wipe σ ws) (wipeD Δ ws) := (v.mono ((x1.trans x').trans x2)).wipe
    refine ht (W.hide Dl (knL K acc)) (wipe σ ws) H2 x _ v2 r2 fun σ3 v3 w3 => ⟨by rw [w3 ws hjs, wipe_none], ?_⟩
    refine hb σ3 H2 v3 i2 _ fun b H3 i3 x3 p3 => ?_
    cases b with
    | false =>
      show _ ∧ _
      exact ⟨by omega, acc, p3.2 rfl, i3, (x'.trans x2).trans x3⟩
    | true =>
      show wi1 σ3 H3 _
      refine p3.1 rfl σ3 H3 (v3.mono x3) i3 _ fun J1 H4 es1 i4 x4 p4 y4 => ?_
      obtain ⟨B, b0, bs, bd⟩ := p4
      have v4 : EnvOk K ((W.hide Dl (knL K acc)).view H4) σ3 Δ1 := v3.mono (x3.trans x4)
      have x14 : Ex (W.view H1) ((W.hide Dl (knL K acc)).view H4) := ((x'.trans x2).trans x3).trans x4
      refine ⟨fun l n H5 => n = es1.length - l ∧ l ≤ es1.length ∧ ∃ acc1, B l acc1 ∧ (W.hide Dl (knL K acc1)).inv H5 ∧ Ex ((W.hide Dl (knL K acc)).view H4) ((W.hide Dl (knL K acc1)).view H5), ⟨_, rfl, Nat.zero_le _, acc, b0, i4, Ex.refl _⟩, ?_⟩
      rintro l n H5 ⟨rfl, hl, acc1, hB, i5, x5⟩
      obtain ⟨yg1, ys1⟩ := y4 _ H5 x5 i5
      by_cases hlt1 : l < es1.length
      · obtain ⟨g3, g4⟩ := yg1 l es1[l] (List.getElem?_eq_getElem hlt1)
        refine .inr ⟨g3, fun H6 => l + 1 ≤ es1.length ∧ ∃ acc1, B (l + 1) acc1 ∧ (W.hide Dl (knL K acc1)).inv H6 ∧ Ex ((W.hide Dl (knL K acc)).view H4) ((W.hide Dl (knL K acc1)).view H6), fun H6 ⟨q1, q2⟩ => ⟨es1.length - (l + 1), by omega, rfl, q1, q2⟩, fun x H6 hy1 => ?_⟩
        obtain ⟨i6, x6, r6⟩ := g4 x H6 hy1
        obtain ⟨hz, Δ2, ks, ht1, hks, hb1⟩ := bs l es1[l] acc1 _ (List.getElem?_eq_getElem hlt1) hB ⟨Dl, _, rfl, hp⟩
        have v6 : EnvOk K ((W.hide Dl (knL K acc1)).view H6) (wipe σ3 ws1) (wipeD Δ1 ws1) := (v4.mono (x5.trans x6)).wipe
        refine ht1 (W.hide Dl (knL K acc1)) (wipe σ3 ws1) H6 x _ v6 r6 fun σ7 v7 w7 => ⟨by rw [w7 ws1 hks, wipe_none], ?_⟩
        refine hb1 σ7 H6 v7 i6 _ fun b H7 i7 x7 p7 => ?_
        cases b with
        | true =>
          show te σ7 H7 _
          refine p7.1 rfl σ7 H7 (v7.mono x7) i7 _ fun y H8 e8 i8 x8 p8 r8 => ?_
          obtain ⟨d, rfl, hB8⟩ := p8
          obtain ⟨o, ho, xs, rfl, hx⟩ := Wd.hide_at i8
          have hlen := hx.length
          refine ⟨xs, ho, sz_lt (by omega), by omega, acc1 ++ [d], hB8, ?_⟩
          obtain ⟨z1, z2⟩ := Wd.hide_put (ψ := knL K (acc1 ++ [d])) (u := .lst (xs ++ [y])) i8 ⟨_, rfl, hx.append (.cons r8 .nil)⟩
          refine ⟨z1, ?_⟩
          rw [z2]
          exact ((x5.trans x6).trans x7).trans x8
        | false =>
          show _ ∧ _
          exact ⟨by omega, acc1, p7.2 rfl, i7, (x5.trans x6).trans x7⟩
      · have e : l = es1.length := by omega
        subst e
        exact .inl ⟨ys1, by omega, acc1, bd acc1 hB, i5, x14.trans x5⟩
  · have e : k = es.length := by omega
    subst e
    refine .inl ⟨ys, ?_⟩
    obtain ⟨u1, u2, o, ho, xs, rfl, hx⟩ := Wd.unhide hp i'
    exact q _ H' _ u1 ((x1.trans x').trans u2) (hd acc hA) (.lst ho hx)

/-! ### the same told by a list of things -/
theorem de_lcM {α : Type} {wi : TI} {g : TG} {ws : List Nat} (xs : List α) (enc : α → DV) (c : α → Bool) (f : α → PyData) (hi : DI K W Δ wi fun es => es = xs.map enc) (hz : xs.length ≤ 50000)
    (h : ∀ x ∈ xs, ∀ W', Hid W W' → ∃ Δ1 js, Tg K g (enc x) (wipeD Δ ws) Δ1 js ∧ (∀ j ∈ js, j ∈ ws) ∧ DT K W' Δ1 tt fun b => b = c x ∧ (c x = true → DE K W' Δ1 te fun z => z = .dat (f x)))
    (k : P (.dat (.list ((xs.filter c).map f)))) : DE K W Δ (tLc wi g tt te ws) P := de_lc <| hi.mono fun es he => by
  subst he
  refine ⟨by rw [List.length_map]; exact hz, fun i acc => acc = ((xs.take i).filter c).map f, rfl, fun i e acc W' he ha hW => ?_, fun acc ha => ?_⟩
  · rw [List.getElem?_map] at he
    cases hx : xs[i]? with
    | none =>
      rw [hx] at he
      cases he
    | some x =>
      rw [hx] at he
      cases he
      obtain ⟨Δ1, js, h1, h2, h3⟩ := h x (List.mem_of_getElem? hx) W' hW
      refine ⟨Δ1, js, h1, h2, h3.mono fun b hb => ?_⟩
      obtain ⟨hb, hE⟩ := hb
      have tk : xs.take (i + 1) = xs.take i ++ [x] := by rw [List.take_add_one, hx]; rfl
      refine ⟨fun e => (hE (by rw [← hb, e])).mono fun z hz => ⟨f x, hz, ?_⟩, fun e => ?_⟩
      · have hc : c x = true := by rw [← hb, e]
        show acc ++ [f x] = _
        rw [tk, List.filter_append, List.map_append, ha, List.filter_cons, if_pos hc]
        rfl
      · have hc : c x = false := by rw [← hb, e]
        show acc = _
        rw [tk, List.filter_append, List.map_append, ha, List.filter_cons, if_neg (by rw [hc]; decide)]
        exact (List.append_nil _).symm
  · subst ha
    rw [List.length_map, List.take_length]
    exact k
theorem de_lc2M {α β : Type} {wi wi1 : TI} {g g1 : TG} {tt1 : TT} {ws ws1 : List Nat} (xs : List α) (enc : α → DV) (c : α → Bool) (ys : α → List β) (enc1 : α → β → DV) (c1 : α → β → Bool) (f : α → β → PyData) (m : Nat) (hi : DI K W Δ wi fun es => es = xs.map enc) (hz : xs.length * m ≤ 50000) (hm : ∀ x ∈ xs, (ys x).length ≤ m)
    (h : ∀ x ∈ xs, ∀ W', Hid W W' → ∃ Δ1 js, Tg K g (enc x) (wipeD Δ ws) Δ1 js ∧ (∀ j ∈ js, j ∈ ws) ∧ DT K W' Δ1 tt fun b => b = c x ∧ (c x = true → DI K W' Δ1 wi1 (fun es => es = (ys x).map (enc1 x)) ∧
      ∀ y ∈ ys x, ∀ W'', Hid W W'' → ∃ Δ2 ks, Tg K g1 (enc1 x y) (wipeD Δ1 ws1) Δ2 ks ∧ (∀ k ∈ ks, k ∈ ws1) ∧ DT K W'' Δ2 tt1 fun b => b = c1 x y ∧ (c1 x y = true → DE K W'' Δ2 te fun z => z = .dat (f x y))))
    (k : P (.dat (.list ((xs.filter c).flatMap fun x => ((ys x).filter (c1 x)).map (f x))))) : DE K W Δ (tLc2 wi g tt wi1 g1 tt1 te ws ws1) P := de_lc2 <| hi.mono fun es he => by
  subst he
  refine ⟨fun i acc => acc = ((xs.take i).filter c).flatMap (fun x => ((ys x).filter (c1 x)).map (f x)) ∧ acc.length ≤ i * m, ⟨rfl, Nat.zero_le _⟩, fun i e acc W' he ⟨ha, hl⟩ hW => ?_, fun acc ⟨ha, _⟩ => ?_⟩
  · rw [List.getElem?_map] at he
    cases hx : xs[i]? with
    | none =>
      rw [hx] at he
      cases he
    | some x =>
      rw [hx] at he
      cases he
      have hxm : x ∈ xs := List.mem_of_getElem? hx
      have hil : i < xs.length := (List.getElem?_eq_some_iff.mp hx).1
      have him : (i + 1) * m ≤ 50000 := Nat.le_trans (Nat.mul_le_mul_right m hil) hz
      rw [Nat.add_mul, Nat.one_mul] at him
      obtain ⟨Δ1, js, h1, h2, h3⟩ := h x hxm W' hW
      refine ⟨Δ1, js, h1, h2, h3.mono fun b hb => ?_⟩
      obtain ⟨hb, hE⟩ := hb
      have tk : xs.take (i + 1) = xs.take i ++ [x] := by rw [List.take_add_one, hx]; rfl
      refine ⟨fun e => ?_, fun e => ?_⟩
      · have hc : c x = true := by rw [← hb, e]
        obtain ⟨hi1, hin⟩ := hE hc
        refine hi1.mono fun es1 he1 => ?_
        subst he1
        refine ⟨fun j acc1 => acc1 = acc ++ (((ys x).take j).filter (c1 x)).map (f x) ∧ acc1.length ≤ i * m + j, ⟨by simp, hl⟩, fun j e1 acc1 W'' he1 ⟨hb1, hl1⟩ hW2 => ?_, fun acc1 ⟨hb1, hl1⟩ => ?_⟩
        · rw [List.getElem?_map] at he1
          cases hy : (ys x)[j]? with
          | none =>
            rw [hy] at he1
            cases he1
          | some y =>
            rw [hy] at he1
            cases he1
            have hjl : j < (ys x).length := (List.getElem?_eq_some_iff.mp hy).1
            have hmx := hm x hxm
            obtain ⟨Δ2, ks, k1, k2, k3⟩ := hin y (List.mem_of_getElem? hy) W'' hW2
            refine ⟨by omega, Δ2, ks, k1, k2, k3.mono fun b2 hb2 => ?_⟩
            obtain ⟨hb2, hE2⟩ := hb2
            have tk1 : (ys x).take (j + 1) = (ys x).take j ++ [y] := by rw [List.take_add_one, hy]; rfl
            refine ⟨fun e2 => (hE2 (by rw [← hb2, e2])).mono fun z hz => ⟨f x y, hz, ?_, ?_⟩, fun e2 => ⟨?_, by omega⟩⟩
            · have hc2 : c1 x y = true := by rw [← hb2, e2]
              rw [tk1, List.filter_append, List.map_append, hb1, List.append_assoc, List.filter_cons, if_pos hc2]
              rfl
            · rw [List.length_append]
              show acc1.length + 1 ≤ _
              omega
            · have hc2 : c1 x y = false := by rw [← hb2, e2]
              rw [tk1, List.filter_append, List.map_append, hb1, List.filter_cons, if_neg (by rw [hc2]; decide)]
              show _ = acc ++ (_ ++ [])
              rw [List.append_nil]
        · rw [List.length_map, List.take_length] at hb1
          refine ⟨?_, ?_⟩
          · rw [tk, List.filter_append, List.flatMap_append, ← ha, List.filter_cons, if_pos hc, hb1]
            simp
          · have hmx := hm x hxm
            rw [List.length_map] at hl1
            rw [Nat.add_mul, Nat.one_mul]
            omega
      · have hc : c x = false := by rw [← hb, e]
        refine ⟨?_, by rw [Nat.add_mul, Nat.one_mul]; omega⟩
        rw [tk, List.filter_append, List.flatMap_append, ← ha, List.filter_cons, if_neg (by rw [hc]; decide)]
        show acc = acc ++ []
        rw [List.append_nil]
  · subst ha
    rw [List.length_map, List.take_length]
    exact k

/-! ### lists that change -/
theorem EnvOk.vw {σ : L2.St} (h : W.view H = W1.view H1) (v : EnvOk K (W.view H) σ Δ) : EnvOk K (W1.view H1) σ Δ := by
  rw [← h]
  exact v
/-- x = [], the list apart -/
theorem ds_newL {i : Nat} (k : ∀ p, W.hid p = false → nx (W.hide p (knL K [])) (Δ.set i (some (.raw (.ref p))))) : DS K W Δ (tAsg (tLst tNil) (gName i)) nx rt bk ct := fun σ H D v iv c => by
  refine ⟨Nat.zero_le _, fun p hp => ?_⟩
  obtain ⟨n1, n2⟩ := Wd.hide_new (φ := knL K []) (o := .lst []) iv hp ⟨[], rfl, .nil⟩
  refine c.nx _ _ _ _ (k p (Wd.hid_none iv hp)) n1 (by rw [n2]; exact Ex.refl _) ?_
  rw [n2]
  exact v.set rfl
/-- a name's list is put apart: it was made here and no one else has it; known by its data -/
theorem ds_app {i p : Nat} {ds : List PyData} (hi : Δ[i]? = some (some (.raw (.ref p)))) (hz : ds.length < 100000) (h : DE K (W.hide p (knL K ds)) Δ te fun e => ∃ d, e = .dat d ∧ nx (W.hide p (knL K (ds ++ [d]))) Δ) :
    DS K (W.hide p (knL K ds)) Δ (tDrop (tBM K "list" rAppend (tVar i) (tCons te tNil))) nx rt bk ct := fun σ H D v iv c => by
  obtain ⟨x, hx, rx⟩ := v.at_ i _ hi
  have rx : x = .ref p := rx
  subst rx
  obtain ⟨o, ho, xs, rfl, hxs⟩ := Wd.hide_at iv
  refine ⟨.ref p, hx, .inl ⟨rfl, xs, SqL.of ho⟩, ?_⟩
  refine h σ H v iv _ fun y H1 e i1 x1 p1 r1 => ?_
  obtain ⟨d, rfl, hn⟩ := p1
  obtain ⟨o1, ho1, ys, rfl, hys⟩ := Wd.hide_at i1
  have hl := hys.length
  refine ⟨p, ys, y, rfl, rfl, ho1, sz_lt (by omega), ?_⟩
  obtain ⟨z1, z2⟩ := Wd.hide_put (ψ := knL K (ds ++ [d])) (u := .lst (ys ++ [y])) i1 ⟨_, rfl, hys.append (.cons r1 .nil)⟩
  refine c.nx _ Δ σ _ hn z1 (by rw [z2]; exact x1) ?_
  rw [z2]
  exact v.mono x1
theorem ds_ext {i p : Nat} {ds : List PyData} (hi : Δ[i]? = some (some (.raw (.ref p)))) (h : DE K (W.hide p (knL K ds)) Δ te fun e => ∃ es, e = .dat (.list es) ∧ ds.length + es.length ≤ 100000 ∧ nx (W.hide p (knL K (ds ++ es))) Δ) :
    DS K (W.hide p (knL K ds)) Δ (tDrop (tBM K "list" rExtend (tVar i) (tCons te tNil))) nx rt bk ct := fun σ H D v iv c => by
  obtain ⟨x, hx, rx⟩ := v.at_ i _ hi
  have rx : x = .ref p := rx
  subst rx
  obtain ⟨o, ho, xs, rfl, hxs⟩ := Wd.hide_at iv
  refine ⟨.ref p, hx, .inl ⟨rfl, xs, SqL.of ho⟩, ?_⟩
  refine h σ H v iv _ fun y H1 e i1 x1 p1 r1 => ?_
  obtain ⟨es, rfl, hz, hn⟩ := p1
  obtain ⟨o1, ho1, ys, rfl, hys⟩ := Wd.hide_at i1
  have hl := hys.length
  cases r1 with
  | @lst b zs _ hb hzs =>
    have hl2 := hzs.length
    refine ⟨p, b, ys, zs, rfl, rfl, ho1, Wd.view_le _ _ hb, sz_of (by omega), ?_⟩
    obtain ⟨z1, z2⟩ := Wd.hide_put (ψ := knL K (ds ++ es)) (u := .lst (ys ++ zs)) i1 ⟨_, rfl, hys.append hzs⟩
    refine c.nx _ Δ σ _ hn z1 (by rw [z2]; exact x1) ?_
    rw [z2]
    exact v.mono x1
/-- the list is seen again, as data -/
theorem ds_see {i p : Nat} {ds : List PyData} (hp : W.hid p = false) (hi : Δ[i]? = some (some (.raw (.ref p)))) (h : DS K W (Δ.set i (some (.dat (.list ds)))) t nx rt bk ct) : DS K (W.hide p (knL K ds)) Δ t nx rt bk ct := fun σ H D v iv c => by
  obtain ⟨x, hx, rx⟩ := v.at_ i _ hi
  have rx : x = .ref p := rx
  subst rx
  obtain ⟨u1, u2, o, ho, xs, rfl, hxs⟩ := Wd.unhide hp iv
  refine h σ H D ⟨by rw [List.length_set]; exact v.len, fun j e q => ?_⟩ u1 (c.step u2)
  by_cases hj : i = j
  · subst hj
    by_cases hl : i < Δ.length
    · rw [List.getElem?_set_self hl] at q
      cases q
      exact ⟨.ref p, hx, .lst ho hxs⟩
    · rw [List.getElem?_eq_none (by simpa using hl)] at q
      cases q
  · rw [List.getElem?_set_ne hj] at q
    obtain ⟨y, h1, h2⟩ := v.at_ j e q
    exact ⟨y, h1, h2.mono u2⟩
end

/-! ### what a def promises -/
abbrev Con := Wd → List DV → (DV → Prop) → Prop
def SpC (K : PySem.W.Frag) (C : Con) : Sp := fun vs H Q _ => ∃ W es P, C W es P ∧ W.inv H ∧ Reps K (W.view H) vs es ∧ ∀ v H' e, W.inv H' → Ex (W.view H) (W.view H') → P e → RepV K (W.view H') v e → Q v H'
/-- W1 keeps apart what W does -/
def Wd.Le (W W1 : Wd) : Prop := ∀ H, W1.inv H → W.inv H ∧ Ex (W1.view H) (W.view H)
theorem Wd.Le.refl (W : Wd) : Wd.Le W W := fun _ i => ⟨i, Ex.refl _⟩
theorem Wd.Le.hide {W W1 : Wd} {p : Addr} {φ : Kn} (h : Wd.Le W W1) (hp : W1.hid p = false) : Wd.Le W (W1.hide p φ) := fun H i => by
  obtain ⟨u1, u2, _⟩ := Wd.unhide hp i
  obtain ⟨v1, v2⟩ := h H u1
  exact ⟨v1, u2.trans v2⟩
def startD (N : List Str) (es : List DV) : DEnv := es.map some ++ List.replicate (N.length - es.length) none
theorem reps_len {K : PySem.W.Frag} {H : Hp} {vs : List V} {es : List DV} (h : Reps K H vs es) : vs.length = es.length := Paired.length h
theorem reps_get {K : PySem.W.Frag} {H : Hp} : ∀ {vs : List V} {es : List DV} {i : Nat} {e : DV}, Reps K H vs es → es[i]? = some e → ∃ v, vs[i]? = some v ∧ RepV K H v e
  | _, _, _, _, .nil, h => by simp at h
  | _, _, 0, _, .cons r _, h => by
    simp at h
    subst h
    exact ⟨_, rfl, r⟩
  | _, _, i + 1, e, .cons _ t, h => by
    obtain ⟨v, h1, h2⟩ := reps_get (i := i) (e := e) t (by simpa using h)
    exact ⟨v, by simpa using h1, h2⟩
theorem env_start {K : PySem.W.Frag} {H : Hp} {N : List Str} {vs : List V} {es : List DV} (h : Reps K H vs es) : EnvOk K H (L2.start N vs) (startD N es) := by
  have hl := reps_len h
  refine ⟨by unfold L2.start startD; simp [hl], fun i e q => ?_⟩
  unfold startD at q
  unfold L2.start
  by_cases hi : i < es.length
  · rw [List.getElem?_append_left (by simpa using hi), List.getElem?_map] at q
    rw [List.getElem?_append_left (by simpa [hl] using hi), List.getElem?_map]
    cases e1 : es[i]? with
    | none =>
      rw [e1] at q
      cases q
    | some z =>
      rw [e1] at q
      cases q
      obtain ⟨v, h1, h2⟩ := reps_get h e1
      exact ⟨v, by rw [h1]; rfl, h2⟩
  · rw [List.getElem?_append_right (by simpa using hi), List.getElem?_replicate] at q
    split at q <;> cases q
section
variable {P : Program} {w : World} {K : PySem.W.Frag} {mg : Str → Option Value} {base : Heap} {C : Con}
/-- what a body that keeps the contract is to do -/
def Keeps (K : PySem.W.Frag) (N : List Str) (C : Con) (t : TS) : Prop := ∀ W es P, C W es P → DS K W (startD N es) t (fun W' _ => Wd.Le W W' ∧ P (.dat .none)) (fun W' e => Wd.Le W W' ∧ P e) (fun _ _ => False) (fun _ _ => False)
theorem keeps_run {N : List Str} {t : TS} (h : Keeps K N C t) {vs : List V} {H : Hp} {Q : VK} {E : XK} (hs : SpC K C vs H Q E) : t { nx := fun _ H' => Q .non H', rt := Q } (L2.start N vs) H := by
  obtain ⟨W, es, P, hC, iv, r, q⟩ := hs
  refine h W es P hC (L2.start N vs) H _ (env_start r) iv ⟨fun W' Δ' σ' H' n i' x' v' => ?_, fun W' e v H' n i' x' r' => ?_, fun _ _ _ _ n => n.elim, fun _ _ _ _ n => n.elim⟩
  · obtain ⟨u1, u2⟩ := n.1 H' i'
    exact q _ H' _ u1 (x'.trans u2) n.2 .non
  · obtain ⟨u1, u2⟩ := n.1 H' i'
    exact q _ H' _ u1 (x'.trans u2) n.2 (r'.mono u2)
theorem kfn {x qual : Str} {st : Stmt} {f : Addr} {fd : FuncData} {N ps : List Str} {k : Nat} (F : Fun K x qual st f fd) (S : FnScope N ps (defScope st)) (hlen : ∀ W es P, C W es P → es.length = ps.length)
    (hbody : ∀ (cdv : Value) (A : Around) (outer : List Env) (s : Shared) (H : Hp) (E : XK), Room k (A.deeper (envOfC qual (defScope st) s.heap.objs.size f cdv)) →
      ∃ t, PSs (cxOf CX0 P w K mg base N qual (defScope st) f cdv A outer s H E).nox (defBody st) t ∧ Keeps K N C t) : FnOk P w K mg base CX0 (k + 1) f fd ps (SpC K C) := by
  refine F.ok S (fun vs H Q E h => ?_) fun cdv A outer s H vs Q E hr h => ?_
  · obtain ⟨W, es, P, hC, _, r, _⟩ := h
    rw [reps_len r, hlen W es P hC]
  · obtain ⟨t, ht, hk⟩ := hbody cdv A outer s H E hr
    exact ⟨t, ht, keeps_run hk h⟩
end
section
variable {K : PySem.W.Frag} {W : Wd} {Δ : DEnv} {P : DV → Prop} {C : Con}
theorem de_call {ta : TA} {E : XK} (h : DA K W Δ ta fun es => C W es P) : DE K W Δ (tCall (SpC K C) [] E ta) P := fun σ H v i Q q =>
  h σ H v i _ fun vs H1 es i1 x1 p1 r1 => by
    show SpC K C (vs ++ []) H1 Q E
    rw [List.append_nil]
    exact ⟨W, es, P, p1, i1, r1, fun z H2 e i2 x2 p2 r2 => q z H2 e i2 (x1.trans x2) p2 r2⟩
/-- a call by keywords alone, or with some -/
theorem de_callK {ta tk : TA} {E : XK} {gV : List V → List V → List V} {gD : List DV → List DV → List DV} (hg : ∀ H vs zs es fs, Reps K H vs es → Reps K H zs fs → Reps K H (gV vs zs) (gD es fs))
    (h : DA K W Δ ta fun es => DA K W Δ tk fun fs => C W (gD es fs) P) : DE K W Δ (tCallK (SpC K C) gV E ta tk) P := fun σ H v i Q q =>
  h σ H v i _ fun vs H1 es i1 x1 p1 r1 => p1 σ H1 (v.mono x1) i1 _ fun zs H2 fs i2 x2 p2 r2 =>
    ⟨W, gD es fs, P, p2, i2, hg _ _ _ _ _ (r1.mono x2) r2, fun z H3 e i3 x3 p3 r3 => q z H3 e i3 ((x1.trans x2).trans x3) p3 r3⟩
end
end Ka

/-! Ka5: defs that ask for repr: nothing is being shown around them. -/
namespace Ka
open PySem PySem.Spec PyProof.Rows L2 Evl
/-- room, and nothing is being shown -/
structure RoomG (k : Nat) (A : Around) : Prop where
  room : Room k A
  calm : A.guards = some []
theorem RoomG.mono {j k : Nat} {A : Around} (r : RoomG k A) (h : j ≤ k) : RoomG j A := ⟨r.room.mono h, r.calm⟩
/-- the same promise where nothing is being shown -/
structure GOk (P : Program) (w : World) (K : PySem.W.Frag) (mg : Str → Option Value) (base : Heap) (k : Nat) (f : Addr) (fd : FuncData) (ps : List Str) (sp : Sp) : Prop where
  len : ∀ vs H Q E, sp vs H Q E → vs.length = ps.length
  run : ∀ (A : Around) (outer : List Env) (s : Shared) (H : Hp) (args : Args) (us : List Value) (vs : List V) (Q : VK) (E : XK),
    RoomG k A → Env0 P w K mg base A outer s H → BindsTo s fd args (ps.zip us) → Vals vs us → sp vs H Q E →
      codeAny (model P w) A (.call (.ref f) args) (CR CX0 outer P w H s Q E) s
section
variable {P : Program} {w : World} {K : PySem.W.Frag} {mg : Str → Option Value} {base : Heap}
/-- the frame's end, from the body's -/
theorem body_end {N : List Str} {qual : Str} {scope : Scope} {f : Addr} {cd : Value} {A : Around} {outer : List Env} {s s' : Shared} {H : Hp} {Q : VK} {E : XK} {fl : Flow}
    (h : SP (cxOf CX0 P w K mg base N qual scope f cd A outer s H E) [] { nx := fun _ H' => Q .non H', rt := Q } fl s') :
    match fl with
    | .ret u => CE outer P w H s Q u s'
    | .next => CE outer P w H s Q Value.none s'
    | .brk => False
    | .cont => False := by
  cases fl with
  | next =>
    have ⟨σ', H', J, q⟩ := h
    exact ⟨V.non, H', J.os, J.bare, J.base, J.hok, rfl, q⟩
  | ret u =>
    have ⟨v, σ', H', J, rv, q⟩ := h
    exact ⟨v, H', J.os, J.bare, J.base, J.hok, rv, q⟩
  | brk =>
    have ⟨_, _, _, q⟩ := h
    exact q
  | cont =>
    have ⟨_, _, _, q⟩ := h
    exact q
theorem gfn_of {k : Nat} {f : Addr} {x qual : Str} {st : Stmt} {fd : FuncData} {N ps : List Str} {sp : Sp} (F : Fun K x qual st f fd) (S : FnScope N ps (defScope st)) (len : ∀ vs H Q E, sp vs H Q E → vs.length = ps.length)
    (hbody : ∀ (cdv : Value) (A : Around) (outer : List Env) (s : Shared) (H : Hp) (vs : List V) (Q : VK) (E : XK), RoomG k (A.deeper (envOfC qual (defScope st) s.heap.objs.size f cdv)) → sp vs H Q E →
      ∃ t, PSs (cxOf CX0 P w K mg base N qual (defScope st) f cdv A outer s H E).nox (defBody st) t ∧ t { nx := fun _ H' => Q .non H', rt := Q } (L2.start N vs) H) : GOk P w K mg base (k + 1) f fd ps sp := by
  have ⟨oc, od, kV, doc, pm, an, cdv, ct, osl, hfd, lk, hcd⟩ := F.ex
  subst hfd
  refine ⟨len, ?_⟩
  intro A outer s H args us vs Q E ⟨hr, hg⟩ e0 hb r hsp
  have here : ∀ b o, base.get? b = some o → s.heap.get? b = some o := fun b o e => (e0.bs b o e).1
  have kin : K.In s.heap := e0.mod.kin.keeps here
  have cells : ∀ y ∈ ps.zip us, (defScope st).names.lookup y.1 = some .local ∨ ((defScope st).names.lookup y.1 = some .cell ∧ ((cellsFrom (s.heap.objs.size + 1) (defScope st).names []).lookup y.1).isSome = true) := by
    rintro ⟨n, v⟩ hy
    cases S.par n (List.of_mem_zip hy).1 with
    | inl q => exact .inl q
    | inr q => exact .inr ⟨q, PySem.W.cellsFrom_some _ _ _ (.inl q)⟩
  refine codeAny_call_function hr.depth (kin _ _ lk) rfl S.co S.gen rfl (PySem.W.codeRec_of kin hcd) (hb _ _ _ _ ?enter)
  case enter =>
    refine wpAny_newFunctionEnv_cells S.kind cells ?_
    intro env he s1 x1
    subst he
    refine ⟨(e0.mod.nolimit.keeps here).keeps x1.toInCall.keep, codeAny_func ?_⟩
    have ⟨t, ht, hq⟩ := hbody cdv A outer s H vs Q E ⟨hr.deeper _, hg⟩ hsp
    have I := inv_start (CX := CX0) (E := E) (qual := qual) (f := f) (cd := cdv) S hr.hd e0 (len _ _ _ _ hsp) r x1
    refine wpAny_mono (ht.nox.run [] s1 (L2.start N vs) H _ I hq) ?_ (fun e s' hs => hs)
    intro fl s' hs
    have fin := body_end hs
    cases fl with
    | next => exact fin
    | ret u => exact fin
    | brk => exact False.elim fin
    | cont => exact False.elim fin
end
section
variable {X : Cx} {k : Nat} {f : Addr} {fd : FuncData} {ps : List Str} {sp : Sp} {dvs : List V} {ds : List Value} {E : XK} {x : Str} {p pos : Pos} {e : Expr} {es : List Expr} {t : TA}
/-- f(..), f such a def -/
theorem pe_callG (F : GOk X.prog X.w X.K X.mg X.base k f fd ps sp) (hr : RoomG k X.A) (hg : Gl X x) (hm : X.mg x = some (.ref f)) (hk : PySem.W.keepIn X.K (.ref f) = true) (hb : Binds X.K fd ps ds) (hd : Vals dvs ds)
    (ha : PA X (e :: es) t) (hdb : (x == ("__debug__" : Str)) = false := by decide) (he : starEach (e :: es) X.env = (false, eval e X.env) :: starEach es X.env := by rfl) (hpl : (backTo pos (starEach es X.env)).any (·.1) = false := by rfl) :
    PE X (.Call (.Name x p) (e :: es) [] pos) (tCall sp dvs E0 t) := by
  constructor
  intro pins s σ H Q I h
  apply wpAny_Call_Name_kw
  apply ld_glob I hg hm ?_ hdb
  apply PySem.W.callWith_K (h₀ := X.base) I.ok.mod.kin hk ?_ he hpl
  apply thn (ha.run pos pins s σ H _ I h)
  rintro us s1 ⟨vs, H1, I1, r, q⟩
  refine ⟨I1.kIn, wpAny_call ?_⟩
  have r2 : Vals (vs ++ dvs) (us ++ ds) := r.append hd
  have hl : (us ++ ds).length = ps.length := by
    rw [← r2.length]
    exact F.len _ _ _ _ q
  apply codeAny_mono (F.run X.A X.stack s1 H1 ⟨us, []⟩ (us ++ ds) (vs ++ dvs) Q E0 hr I1.env0 (hb s1 us I1.kIn hl) r2 q)
  intro res s' hq
  match res with
  | .error e => exact False.elim hq
  | .ok (.ret u) => exact I1.after hq
  | .ok .next => exact False.elim hq
  | .ok .brk => exact False.elim hq
  | .ok .cont => exact False.elim hq
end
section
variable {P : Program} {w : World} {K : PySem.W.Frag} {mg mb : Str → Option Value}
/-- the law's call, at the heap behind the top: H tracks the script alone (or nothing, where the script is the module's own) -/
theorem law_at {k : Nat} {fa a : Addr} {fd : FuncData} {x : Str} {sp : Sp} {s₁ : Shared} {vs : List Value} {H : Hp}
    (KX : K.In s₁.heap) (hns : s₁.heap.Ns mainGlobals mg) (hb : s₁.heap.Ns builtinsNs mb) (hbb : ∀ x : Str, x ≠ "__name__" → mb x = bootBuiltins x) (hlim : s₁.heap.NoLimit) (hg : s₁.gens = #[])
    (ha : s₁.heap.get? a = some { cls := .type "list", data := .seq vs.toArray }) (hr : RoomG k callerA)
    (F : ∀ base : Heap, K.In base → base.Ns mainGlobals mg → GOk P w K mg base k fa fd [x] sp) (hbind : ∀ (s : Shared) (u : Value), BindsTo s fd ⟨[u], []⟩ [(x, u)])
    (hsp : sp [.ref a] H (fun v _ => v = .bl true) fun _ _ _ => False) (hO : Only H) (hok : HOk P w H s₁.heap) (hA : ∀ b, H b ≠ none → b = a) (hK : H a ≠ none → K.lookup a = none) :
    codeAny (model P w) callerA (.call (.ref fa) ⟨[.ref a], []⟩) (fun r s' => r = .ok (.ret (.bool true)) ∧ OldK s₁.heap s'.heap ∧ s'.os = s₁.os ∧ AllBare s'.gens) s₁ := by
  -- the heap of the module: all but the script
  have seen : ∀ {b : Addr} {o : Obj}, s₁.heap.get? b = some o → H b = none → (hidT s₁.heap H).get? b = some o := fun e n => hidT_get e n
  have dictNot : ∀ {b : Addr} {m : Str → Option Value}, s₁.heap.Ns b m → H b = none := by
    rintro b m ⟨o, es, ep, e, d, _⟩
    cases q : H b with
    | none => rfl
    | some u =>
      have e' := hA b (by rw [q]; exact Option.some_ne_none u)
      rw [e', ha] at e
      have e2 := Option.some.inj e
      rw [← e2] at d
      exact nomatch d
  have ns' : ∀ {b : Addr} {m : Str → Option Value}, s₁.heap.Ns b m → (hidT s₁.heap H).Ns b m := by
    intro b m h
    have n := dictNot h
    obtain ⟨o, es, ep, e, d, r⟩ := h
    exact ⟨o, es, ep, seen e n, d, r⟩
  have kin' : K.In (hidT s₁.heap H) := by
    intro b o e
    refine seen (KX b o e) ?_
    cases q : H b with
    | none => rfl
    | some u =>
      have e' := hA b (by rw [q]; exact Option.some_ne_none u)
      rw [e'] at q e
      rw [hK (by rw [q]; exact Option.some_ne_none u)] at e
      exact nomatch e
  obtain ⟨mc, c1, c2⟩ := hlim
  have e0 : Env0 P w K mg (hidT s₁.heap H) callerA [] s₁ H :=
    ⟨rfl, ⟨kin', ns' hns, ⟨mb, ns' hb, hbb⟩, mc, ns' c1, c2⟩, fun b o e => of_hidT e, Nat.le_of_eq (hidT_size _ _), trivial,
      fun b hb => (nomatch (show b ∈ ([] : List Addr) from hb)), hok, .of_eq hg⟩
  refine codeAny_mono ((F _ kin' (ns' hns)).run callerA [] s₁ H ⟨[.ref a], []⟩ [.ref a] [.ref a] _ _ hr e0 (hbind s₁ (.ref a)) (.cons rfl .nil) hsp) ?_
  intro r s' h
  match r with
  | .error e => exact False.elim h
  | .ok .next => exact False.elim h
  | .ok .brk => exact False.elim h
  | .ok .cont => exact False.elim h
  | .ok (.ret u) =>
    obtain ⟨v, H', os, bare, un, hok', r', q⟩ := h
    have q' : v = .bl true := q
    subst q'
    have r2 : u = Value.bool true := r'
    subst r2
    refine ⟨rfl, OldK.of_keep ?_, os, bare⟩
    intro b o e
    cases q : H b with
    | none => exact un.keep b o e q (fun z => nomatch (show b ∈ ([] : List Addr) from z)) (fun z => nomatch z)
    | some u =>
      cases hO b with
      | inl z => exact nomatch q.symm.trans z
      | inr z =>
        obtain ⟨ob, xs, z⟩ := z
        obtain ⟨e1, _⟩ := hok b _ z
        obtain ⟨e2, _⟩ := hok' b _ (un.frzs b ob _ z)
        rw [e] at e1
        rw [Option.some.inj e1]
        exact e2
theorem law_callG {k : Nat} {fa a : Addr} {fd : FuncData} {x : Str} {sp : Sp} {s₁ : Shared} {vs : List Value} {ns : List Int}
    (KX : K.In s₁.heap) (hns : s₁.heap.Ns mainGlobals mg) (hb : s₁.heap.Ns builtinsNs mb) (hbb : ∀ x : Str, x ≠ "__name__" → mb x = bootBuiltins x) (hlim : s₁.heap.NoLimit) (hg : s₁.gens = #[])
    (ha : s₁.heap.get? a = some { cls := .type "list", data := .seq vs.toArray }) (hi : IntsAre vs ns) (hl : ns.length ≤ sizeLine) (hr : RoomG k callerA)
    (F : ∀ base : Heap, K.In base → base.Ns mainGlobals mg → GOk P w K mg base k fa fd [x] sp) (hbind : ∀ (s : Shared) (u : Value), BindsTo s fd ⟨[u], []⟩ [(x, u)])
    (hsp : ∀ H : Hp, Only H → SqL K H a (ns.map V.int) → sp [.ref a] H (fun v _ => v = .bl true) fun _ _ _ => False) :
    codeAny (model P w) callerA (.call (.ref fa) ⟨[.ref a], []⟩) (fun r s' => r = .ok (.ret (.bool true)) ∧ OldK s₁.heap s'.heap ∧ s'.os = s₁.os ∧ AllBare s'.gens) s₁ := by
  have rv := vals_ints hi
  have lenV := hi.length
  cases hk : K.lookup a with
  | some o =>
    have e := Option.some.inj ((KX a o hk).symm.trans ha)
    subst e
    have none1 : Only (fun _ => none) := fun _ => .inl rfl
    refine law_at KX hns hb hbb hlim hg ha hr F hbind (hsp (fun _ => none) none1 ?_) none1 (fun b u z => (nomatch (show (none : Option HO) = some u from z))) (fun b z => absurd rfl z) (fun z => absurd rfl z)
    exact .inr ⟨_, vs.toArray, _, hk, rfl, rfl, rfl, by rw [List.size_toArray, lenV]; exact hl, by simpa using rv⟩
  | none =>
    let H : Hp := fun b => if b = a then some (.frz { cls := .type "list", data := .seq vs.toArray } (.lst (ns.map V.int))) else none
    have at_a : H a = some (.frz { cls := .type "list", data := .seq vs.toArray } (.lst (ns.map V.int))) := if_pos rfl
    have off : ∀ b, b ≠ a → H b = none := fun b h => if_neg h
    have only : Only H := fun b => by
      by_cases h : b = a
      · exact .inr ⟨_, _, by rw [h]; exact at_a⟩
      · exact .inl (off b h)
    refine law_at KX hns hb hbb hlim hg ha hr F hbind (hsp H only (.inl (.inr ⟨_, at_a⟩))) only (fun b u z => ?_) (fun b z => ?_) (fun _ => hk)
    · by_cases h : b = a
      · rw [h, at_a] at z
        rw [h, ← Option.some.inj z]
        exact ⟨ha, by rw [List.length_map]; exact hl, vs, _, rv, ha⟩
      · rw [off b h] at z
        exact nomatch z
    · by_cases h : b = a
      · exact h
      · exact absurd (off b h) z
/-- the goal that the head leaves -/
theorem walkG {l : PySem.W.OpenLaw} {n k : Nat} {q : Program} {loose : List Str} {XP : (Str → Option Value) → Heap → Prop} {YP : World → Heap → Prop} {d : DefRec} {K : Params → PySem.W.Frag} {sp : PySem.W.Frag → Sp} {x : Str}
    (hn : l.most = some n) (hn2 : n ≤ sizeLine) (hdf : d.params.defaults = []) (hr : RoomG k callerA)
    (hY : ∀ (w : World) (h : Heap), YP w h → (K w.params).In h)
    (F : ∀ (w : World) (mg : Str → Option Value) (fa : Addr) (h : Heap), (K w.params).In h → h.Ns mainGlobals mg → mg d.name = some (.ref fa) →
      ∃ fd : FuncData, (∀ (s : Shared) (u : Value), BindsTo s fd ⟨[u], []⟩ [(x, u)]) ∧
        ∀ base : Heap, (K w.params).In base → base.Ns mainGlobals mg → GOk l.prog w (K w.params) mg base k fa fd [x] (sp (K w.params)))
    (hsp : ∀ (K : PySem.W.Frag) (H : Hp) (a : Addr) (ns : List Int), ns.length ≤ n → Only H → SqL K H a (ns.map V.int) → sp K [.ref a] H (fun v _ => v = .bl true) fun _ _ _ => False) :
    PySem.W.WalkO q loose XP YP l.row.toRowW d [] (fun f vs => PySem.call f vs) := by
  refine Att.attach_call hn hdf ?_
  intro w s₀ s₁ mg mb fa o pm cd doc a vs ns G Y ho hd hcd hmg hobj hints hlen hg
  have KX := hY w _ Y
  have ⟨fd, hb, hF⟩ := F w mg fa _ KX G.T.g hmg
  exact law_callG KX G.T.g G.T.b G.T.builtins G.T.nolimit hg hobj hints (Nat.le_trans hlen hn2) hr hF hb (fun H hO hS => hsp _ H a ns hlen hO hS)
end
/-- such a def, by its contract -/
theorem gfn {P : Program} {w : World} {K : PySem.W.Frag} {mg : Str → Option Value} {base : Heap} {C : Con} {x qual : Str} {st : Stmt} {f : Addr} {fd : FuncData} {N ps : List Str} {k : Nat} (F : Fun K x qual st f fd) (S : FnScope N ps (defScope st)) (hlen : ∀ W es P, C W es P → es.length = ps.length)
    (hbody : ∀ (cdv : Value) (A : Around) (outer : List Env) (s : Shared) (H : Hp) (E : XK), RoomG k (A.deeper (envOfC qual (defScope st) s.heap.objs.size f cdv)) →
      ∃ t, PSs (cxOf CX0 P w K mg base N qual (defScope st) f cdv A outer s H E).nox (defBody st) t ∧ Keeps K N C t) : GOk P w K mg base (k + 1) f fd ps (SpC K C) := by
  refine gfn_of F S (fun vs H Q E h => ?_) fun cdv A outer s H vs Q E hr h => ?_
  · obtain ⟨W, es, P, hC, _, r, _⟩ := h
    rw [reps_len r, hlen W es P hC]
  · obtain ⟨t, ht, hk⟩ := hbody cdv A outer s H E hr
    exact ⟨t, ht, keeps_run hk h⟩
end Ka

namespace Ka
open PySem PySem.Spec PyProof.Rows L2 Evl
section
variable {X : Cx} {CX : CXT} {k : Nat} {f : Addr} {fd : FuncData} {ps ks : List Str} {sp : Sp} {E : XK} {x : Str} {p pos : Pos} {kws : List Keyword} {tk : TA}
variable {g : List Value → List Value → List Value} {gV : List V → List V → List V}
/-- f(k = v, ..), by keywords alone -/
theorem pe_callKw (F : FnOk X.prog X.w X.K X.mg X.base CX k f fd ps sp) (hr : Room k X.A) (hg : Gl X x) (hm : X.mg x = some (.ref f)) (hk : PySem.W.keepIn X.K (.ref f) = true) (hb : KBinds X.K fd ps ks g gV) (hx : Passes CX X E)
    (hkw : PK X kws tk) (hall : (backToKw pos (keywordEach kws X.env)).all (·.1.isSome) = true := by rfl) (hks : (backToKw pos (keywordEach kws X.env)).filterMap (·.1) = ks := by rfl)
    (hdb : (x == ("__debug__" : Str)) = false := by decide) (hpl : ((backTo pos (starEach [] X.env)).any (·.1) || (backToKw pos (keywordEach kws X.env)).any (·.1.isNone)) = false := by rfl) :
    PE X (.Call (.Name x p) [] kws pos) (tCallK sp gV E tNil tk) := by
  constructor
  intro pins s σ H Q I h
  apply wpAny_Call_Name_kw
  apply ld_glob I hg hm ?_ hdb
  apply PySem.W.callWith_KW0 (h₀ := X.base) I.ok.mod.kin hk hall ?_ hpl
  apply thn (hkw.run pos pins s σ H _ I h)
  rintro ws s2 ⟨zs, H2, I2, rz, q2⟩
  refine ⟨I2.kIn, ?_⟩
  rw [hks]
  exact run_fnk (us := []) F hr hb hx I2 .nil rz q2
end
theorem Fun_kbinds {K : PySem.W.Frag} {x qual : Str} {st : Stmt} {f : Addr} {fd : FuncData} {ps ks : List Str} {g : List Value → List Value → List Value} {gV : List V → List V → List V} (F : Fun K x qual st f fd)
    (h : ∀ (kV doc pm : Value) (an : Option Addr) (cdv ct : Value) (us ws : List Value), (g us ws).length = ps.length → bindArgs (PySem.W.fnOf x qual (defArgs st) (defBody st) (defScope st) .none kV doc pm an cdv ct) ⟨us, ks.zip ws⟩ = pure (ps.zip (g us ws)))
    (rel : ∀ {vs : List V} {us : List Value} {zs : List V} {ws : List Value}, Vals vs us → Vals zs ws → Vals (gV vs zs) (g us ws)) : KBinds K fd ps ks g gV := by
  have ⟨oc, od, kV, doc, pm, an, cdv, ct, osl, hfd, lk, hcd⟩ := F.ex
  subst hfd
  exact ⟨fun s us ws _ hl => .of_eq (h kV doc pm an cdv ct us ws hl), rel⟩
/-- keywords in another order: i names the place of the parameter's value -/
def perm (n : Nat) (ix : List Nat) {α : Type} (us ws : List α) : List α := if us.length = 0 ∧ ws.length = n then ix.filterMap fun i => ws[i]? else []
theorem perm_rel {α β : Type} {R : α → β → Prop} (n : Nat) (ix : List Nat) {us ws : List α} {us' ws' : List β} (h1 : Paired R us us') (h2 : Paired R ws ws') : Paired R (perm n ix us ws) (perm n ix us' ws') := by
  have e1 := h1.length
  have e2 := h2.length
  unfold perm
  by_cases c : us.length = 0 ∧ ws.length = n
  · rw [if_pos c, if_pos ⟨by omega, by omega⟩]
    induction ix with
    | nil => exact .nil
    | cons i ix ih =>
      rw [List.filterMap_cons, List.filterMap_cons]
      have look : ∀ {l : List α} {l' : List β} (i : Nat), Paired R l l' → (l[i]? = none ∧ l'[i]? = none) ∨ ∃ a b, l[i]? = some a ∧ l'[i]? = some b ∧ R a b := by
        intro l l' i h
        induction h generalizing i with
        | nil => exact .inl ⟨by simp, by simp⟩
        | cons r _ ih =>
          cases i with
          | zero => exact .inr ⟨_, _, rfl, rfl, r⟩
          | succ i =>
            rcases ih i with ⟨a, b⟩ | ⟨a, b, c, d, e⟩
            · exact .inl ⟨by simpa using a, by simpa using b⟩
            · exact .inr ⟨a, b, by simpa using c, by simpa using d, e⟩
      rcases look i h2 with ⟨a, b⟩ | ⟨a, b, ea, eb, r⟩
      · rw [a, b]
        exact ih
      · rw [ea, eb]
        exact .cons r ih
  · rw [if_neg c, if_neg (fun z => c ⟨by omega, by omega⟩)]
    exact .nil
section
variable {X : Cx} {tg : Expr}
/-- sorted of a list of data, or of a set of ints -/
def rSortedX (w : World) (K : PySem.W.Frag) : List V → Hp → VK → Prop := fun vs H Q => rSortedQ K vs H Q ∨ rSortedSet w vs H Q
theorem cr_sortedX (hc : X.calm = true) (hu : X.A.units + 64 < cLine) : CallR X (.builtin "sorted") (rSortedX X.w X.K) := (cr_sortedQ hu).or (cr_sortedSet hc)
/-- for x in l, l a list or a tuple -/
def iSeq (K : PySem.W.Frag) (tl : TE) : TI := fun σ H R => tl σ H fun x H1 => (∃ a, x = .ref a ∧ (∃ xs, SqL K H1 a xs) ∧ R (Itl K a) H1) ∨ ∃ a, x = .ref a ∧ (∃ xs, SqT K H1 a xs) ∧ R (Itt K a) H1
end
section
variable {K : PySem.W.Frag} {w : World} {W : Wd} {Δ : DEnv} {te : TE} {P : DV → Prop}
theorem cal_sortedXL {ds : List PyData} (h1 : PySem.W.AllAlike ds) (h2 : PySem.W.Sortable ds) (h3 : ∀ d ∈ ds, d.depth ≤ 60) (k : P (.dat (.list (ds.mergeSort (PySem.W.dataLe false id))))) : CalD K W (rSortedX w K) [.dat (.list ds)] P := fun xs H iv r Q q => .inl (cal_sorted h1 h2 h3 k xs H iv r Q q)
theorem cal_sortedXS {S : Int → Bool} {n : Nat} (hn : n < 64) (k : ∀ ns : List Int, ns.Pairwise (· < ·) → (∀ k : Int, k ∈ ns ↔ S k = true) → ns.length = n → P (.dat (.list (ns.map PyData.int)))) : CalD K W (rSortedX w K) [.obj fun q => SetO w q S n] P := fun xs H iv r Q q => .inr (cal_sortedSet hn k xs H iv r Q q)
theorem di_seqL {PL : List DV → Prop} (h : DE K W Δ te fun e => ∃ ds, e = .dat (.list ds) ∧ PL (ds.map DV.dat)) : DI K W Δ (iSeq K te) PL := fun σ H v i R q => by
  refine h σ H v i _ fun x H1 e i1 x1 p1 r1 => ?_
  obtain ⟨ds, rfl, k⟩ := p1
  cases r1 with
  | @lst a vs _ ha hv => exact .inl ⟨a, rfl, ⟨vs, SqL.of (Wd.view_le _ _ ha)⟩, q _ H1 _ i1 x1 k (yl_list ha hv)⟩
theorem di_seqT {PL : List DV → Prop} (h : DE K W Δ te fun e => ∃ ds, e = .dat (.tuple ds) ∧ PL (ds.map DV.dat)) : DI K W Δ (iSeq K te) PL := fun σ H v i R q => by
  refine h σ H v i _ fun x H1 e i1 x1 p1 r1 => ?_
  obtain ⟨ds, rfl, k⟩ := p1
  cases r1 with
  | @tup a vs _ ha hv => exact .inr ⟨a, rfl, ⟨vs, ex_t Wd.view_le ha⟩, q _ H1 _ i1 x1 k (yl_tup ha hv)⟩
end
section
variable {X : Cx} {tg : Expr}
theorem pi_seq {l : Expr} {tl : TE} (hl : PE X l tl) : PI X tg l (iSeq X.K tl) := by
  constructor
  intro pins s σ H R I h
  apply thn (hl.run pins s σ H _ I h)
  rintro v s1 ⟨x, H1, I1, r1, q1⟩
  rcases q1 with ⟨a, rfl, ⟨xs, hq⟩, q⟩ | ⟨a, rfl, ⟨xs, hq⟩, q⟩
  · obtain rfl : v = .ref a := r1
    obtain ⟨its, rv, p, hz⟩ := I1.list hq
    refine wpAny_pyIter_list p.isList ?_
    have hn : H1 s1.heap.objs.size = none := I1.hok.fresh (Nat.le_refl _)
    exact ⟨s1.heap.objs.size, [s1.heap.objs.size], _, _, H1, rfl, I1.kept (t' := s1.toks) (fun b o e => Heap.get?_push_of_some _ e), turn_list a _, ⟨_, Heap.get?_push_size _ rfl, rfl, rfl⟩, fun b hb => by
      have e : b = s1.heap.objs.size := by simpa using hb
      rw [e]
      exact I1.fpOk (Nat.le_refl _) hn, q⟩
  · obtain rfl : v = .ref a := r1
    obtain ⟨its, rv, p, hz⟩ := I1.tuple hq
    have hn : H1 s1.heap.objs.size = none := I1.hok.fresh (Nat.le_refl _)
    refine wpAny_pyIter_tuple (show s1.heap.IsTuple a its.toArray from p) ?_
    exact ⟨s1.heap.objs.size, [s1.heap.objs.size], _, _, H1, rfl, I1.kept (t' := s1.toks) (fun b o e => Heap.get?_push_of_some _ e), turn_tuple a _, ⟨_, Heap.get?_push_size _ rfl, rfl, rfl⟩, fun b hb => by
      have e : b = s1.heap.objs.size := by simpa using hb
      rw [e]
      exact I1.fpOk (Nat.le_refl _) hn, q⟩
/-- products of ints, repeated lists -/
def rMulX : R2 := fun x y H Q => (rI CMul fun i j => .int (i * j)) x y H Q ∨ rRep x y H Q
theorem op_mulX : OpR X (binaryOp .Mult) rMulX := op_mul.or op_rep
theorem hu65 {k : Nat} {A : Around} (r : Room k A) : A.units + 65 < cLine := by
  have := r.un
  omega
theorem pe_revX {e : Expr} {te : TE} {k : Nat} {p1 p2 p3 pos : Pos} (he : PE X e te) : PE X (.Subscript e (.Slice none none (some (.UnaryOp .USub (.Constant (.int 1) k p1) p2)) p3) pos) (tRevL X.K te) := pe_revL he
end
section
variable {K : PySem.W.Frag} {w : World} {W : Wd} {Δ : DEnv} {te : TE} {P : DV → Prop}
theorem opd_mulI {i j : Int} (hc : CMul i j) (k : P (.dat (.int (i * j)))) : OpD K W rMulX (.dat (.int i)) (.dat (.int j)) P := fun x y H iv rx ry Q q => .inl (opd_IC hc k x y H iv rx ry Q q)
end
end Ka
namespace Ka
theorem perm_len {α : Type} {n m : Nat} {ix : List Nat} {us ws : List α} (hm : m ≠ 0) (h : (perm n ix us ws).length = m) : us = [] ∧ ws.length = n := by
  unfold perm at h
  by_cases c : us.length = 0 ∧ ws.length = n
  · exact ⟨List.eq_nil_of_length_eq_zero c.1, c.2⟩
  · rw [if_neg c] at h
    exact absurd h.symm hm
end Ka
namespace Ka
open PySem PySem.Spec PyProof.Rows L2
section
variable {CX : CXT} {P : Program} {w : World} {K : PySem.W.Frag} {mg : Str → Option Value} {base : Heap} {N : List Str} {qual : Str} {scope : Scope} {f : Addr} {cd : Value} {A : Around} {outer : List Env} {s : Shared} {H : Hp} {E : XK}
theorem cx_K : (cxOf CX P w K mg base N qual scope f cd A outer s H E).nox.K = K := rfl
theorem cx_w : (cxOf CX P w K mg base N qual scope f cd A outer s H E).nox.w = w := rfl
end
end Ka
namespace Ka
open PySem PySem.Spec PyProof.Rows L2 Evl
section
variable {K : PySem.W.Frag} {W : Wd} {Δ : DEnv} {te : TE} {nx bk ct : Wd → DEnv → Prop} {rt : Wd → DV → Prop}
theorem ds_asg {g : TG} (h : DE K W Δ te fun e => ∃ Δ' js, Tg K g e Δ Δ' js ∧ nx W Δ') : DS K W Δ (tAsg te g) nx rt bk ct := fun σ H D v i' c =>
  h σ H v i' _ fun x H1 e i1 x1 p1 r1 => by
    obtain ⟨Δ', js, ht, k⟩ := p1
    exact ht W σ H1 x _ (v.mono x1) r1 fun σ' v' _ => c.nx W Δ' σ' H1 k i1 x1 v'
/-- x, y = e, f -/
theorem ds_par {i j : Nat} {ta : TA} (h : DA K W Δ ta fun es => ∃ a b, es = [a, b] ∧ nx W ((Δ.set i (some a)).set j (some b))) : DS K W Δ (tPar i j ta) nx rt bk ct := fun σ H D v i' c =>
  h σ H v i' _ fun xs H1 es i1 x1 p1 r1 => by
    obtain ⟨a, b, rfl, k⟩ := p1
    obtain ⟨x, y, rfl, rx, ry⟩ := reps2 r1
    exact ⟨x, y, rfl, c.nx W _ _ H1 k i1 x1 (((v.mono x1).set rx).set ry)⟩
theorem tg_tup3 {i j k : Nat} {a b c : PyData} : Tg K (gTup K 3 (gCons (gName i) (gCons (gName j) (gCons (gName k) gNil)))) (.dat (.tuple [a, b, c])) Δ (((Δ.set i (some (.dat a))).set j (some (.dat b))).set k (some (.dat c))) ([i] ++ ([j] ++ ([k] ++ []))) :=
  tg_tup rfl (tgs_cons tg_name (tgs_cons tg_name (tgs_cons tg_name tgs_nil)))
theorem tg_tup2 {i j : Nat} {a b : PyData} : Tg K (gTup K 2 (gCons (gName i) (gCons (gName j) gNil))) (.dat (.tuple [a, b])) Δ ((Δ.set i (some (.dat a))).set j (some (.dat b))) ([i] ++ ([j] ++ [])) :=
  tg_tup rfl (tgs_cons tg_name (tgs_cons tg_name tgs_nil))
end
end Ka
namespace Ka
open PySem PySem.Spec PyProof.Rows L2 Evl
section
variable {X : Cx} {K : PySem.W.Frag} {w : World}
theorem op_addK (e : X.K = K) : OpR X (binaryOp .Add) (rAddX K) := by subst e; exact op_addX
/-- equal: data that are laid out, or two texts -/
def rEqS (K : PySem.W.Frag) : R2 := fun x y H Q => rEqD K x y H Q ∨ rEq x y H Q
def rNeS (K : PySem.W.Frag) : R2 := fun x y H Q => rNeD K x y H Q ∨ rNe x y H Q
theorem op_eqK (e : X.K = K) (hu : X.A.units + 64 < cLine) : OpR X (compareOp .Eq) (rEqS K) := by
  subst e
  intro pins s σ H x y v u Q I rx ry h
  rcases h with h | h
  · exact op_eqD hu pins s σ H x y v u Q I rx ry h
  · exact op_eq pins s σ H x y v u Q I rx ry h
theorem op_neK (e : X.K = K) (hu : X.A.units + 64 < cLine) : OpR X (compareOp .NotEq) (rNeS K) := by
  subst e
  intro pins s σ H x y v u Q I rx ry h
  rcases h with h | h
  · exact op_neD hu pins s σ H x y v u Q I rx ry h
  · exact op_ne pins s σ H x y v u Q I rx ry h
theorem opd_eq {W : Wd} {P : DV → Prop} {d e : PyData} (h1 : SeqAt.shaped d = true) (h2 : SeqAt.shaped e = true) (k : P (.dat (.bool (PyData.eqv d e)))) : OpD K W (rEqS K) (.dat d) (.dat e) P := fun x y H iv rx ry Q q => .inl (opd_eq0 h1 h2 k x y H iv rx ry Q q)
theorem opd_ne {W : Wd} {P : DV → Prop} {d e : PyData} (h1 : SeqAt.shaped d = true) (h2 : SeqAt.shaped e = true) (k : P (.dat (.bool (!PyData.eqv d e)))) : OpD K W (rNeS K) (.dat d) (.dat e) P := fun x y H iv rx ry Q q => .inl (opd_ne0 h1 h2 k x y H iv rx ry Q q)
theorem opd_neS {W : Wd} {P : DV → Prop} {a b : Str} (k : P (.dat (.bool (!decide (a = b))))) : OpD K W (rNeS K) (.dat (.str a)) (.dat (.str b)) P := fun x y H iv rx ry Q q => by
  cases rx
  cases ry
  refine .inr ⟨rfl, q _ H _ iv (Ex.refl _) k ?_⟩
  rw [show decide (V.str a = V.str b) = decide (a = b) from decide_eq_decide.mpr (by rw [V.str.injEq])]
  exact .bl _
theorem sl_K (e : X.K = K) : SlR X (rSlX K) := by subst e; exact sl_X
theorem cr_lenK (e : X.K = K) : CallR X (.builtin "len") (rLenX K) := by subst e; exact cr_lenX
theorem cr_tupK (e : X.K = K) : CallR X (.type "tuple") (rTupX K) := by subst e; exact cr_tupX
theorem cr_lstK (e : X.K = K) : CallR X (.type "list") (rLstX K) := by subst e; exact cr_lstX
theorem cr_allK (e : X.K = K) (hc : X.calm = true) : CallR X (.builtin "all") (rAll K) := by subst e; exact cr_all hc
theorem cr_isiK (e : X.K = K) : CallR X (.builtin "isinstance") (rIsi K) := by subst e; exact call_isi
theorem cr_reprK (e : X.K = K) (hg : X.A.guards = some []) (hu : X.A.units + 64 < cLine) : CallR X (.builtin "repr") (rRepr K) := by subst e; exact cr_repr hg hu
theorem ix_K (e : X.K = K) : IxR X (rIx K) := by subst e; exact ix_seq
theorem pi_seqK {tg l : Expr} {tl : TE} (e : X.K = K) (hl : PE X l tl) : PI X tg l (iSeq K tl) := by subst e; exact pi_seq hl
theorem pg_tupK {ts : List Expr} {t : TGs} {n : Nat} {x1 : Nat} {pos : Pos} (e : X.K = K) (h : PG X (.Tuple ts x1 pos) (gTup X.K n t)) : PG X (.Tuple ts x1 pos) (gTup K n t) := by subst e; exact h
theorem pe_revK {e : Expr} {te : TE} {k : Nat} {p1 p2 p3 pos : Pos} (e1 : X.K = K) (he : PE X e te) : PE X (.Subscript e (.Slice none none (some (.UnaryOp .USub (.Constant (.int 1) k p1) p2)) p3) pos) (tRevL K te) := by subst e1; exact pe_revX he
end
end Ka

/-! Ka7: the deck: a dict with a list of ints, apart from all else; what a draw does to it is of no matter. -/
namespace Ka
open PySem PySem.Spec PyProof.Rows L2 Evl
def deckO (c : Addr) (m k : Int) : HO := .dK [(Sum.inr ("cells" : Str), .ref c), (Sum.inr ("mixed" : Str), .int m), (Sum.inr ("draws" : Str), .int k)]
structure HasDeck (W : Wd) (d c : Addr) : Prop where
  hd : W.hid d = true
  hc : W.hid c = true
  ne : d ≠ c
  get : ∀ H, W.inv H → ∃ (ns : List Int) (m k : Int), H d = some (deckO c m k) ∧ H c = some (.lst (ns.map V.int)) ∧ ns.length ≤ 64
  put : ∀ (H H' : Hp) (ns : List Int) (m k : Int), W.inv H → (∀ a, a ≠ d → a ≠ c → H' a = H a) → H' d = some (deckO c m k) → H' c = some (.lst (ns.map V.int)) → ns.length ≤ 64 → W.inv H'
theorem vw_off {hid : Addr → Bool} {d c : Addr} (hd : hid d = true) (hc : hid c = true) {H H' : Hp} (h : ∀ a, a ≠ d → a ≠ c → H' a = H a) : vw hid H' = vw hid H := by
  funext a
  unfold vw
  by_cases e1 : a = d
  · rw [e1, if_pos hd, if_pos hd]
  · by_cases e2 : a = c
    · rw [e2, if_pos hc, if_pos hc]
    · rw [h a e1 e2]
theorem HasDeck.hide {W : Wd} {d c : Addr} (h : HasDeck W d c) {l : Addr} {φ : Kn} : HasDeck (W.hide l φ) d c where
  hd := hidAnd_of h.hd
  hc := hidAnd_of h.hc
  ne := h.ne
  get H i := by
    obtain ⟨i1, _⟩ := i
    obtain ⟨ns, m, k, h1, h2, h3⟩ := h.get _ i1
    exact ⟨ns, m, k, del_le _ _ h1, del_le _ _ h2, h3⟩
  put H H' ns m k i off h1 h2 h3 := by
    obtain ⟨i1, o, ho, p⟩ := i
    obtain ⟨ns0, m0, k0, g1, g2, _⟩ := h.get _ i1
    have nd : d ≠ l := fun e => by
      rw [e, del_self] at g1
      cases g1
    have nc : c ≠ l := fun e => by
      rw [e, del_self] at g2
      cases g2
    have off' : ∀ a, a ≠ d → a ≠ c → del H' l a = del H l a := fun a e1 e2 => by
      by_cases e : a = l
      · rw [e, del_self, del_self]
      · rw [del_ne e, del_ne e, off a e1 e2]
    refine ⟨h.put (del H l) (del H' l) ns m k i1 off' (by rw [del_ne nd]; exact h1) (by rw [del_ne nc]; exact h2) h3, o, by rw [off l nd.symm nc.symm]; exact ho, ?_⟩
    rw [vw_off h.hd h.hc off']
    exact p
theorem HasDeck.hid {W W' : Wd} {d c : Addr} (h : HasDeck W d c) (e : Hid W W') : HasDeck W' d c := by
  obtain ⟨p, φ, rfl, _⟩ := e
  exact h.hide
/-- the deck as it stands -/
def Wd.exact (W : Wd) {d c : Addr} (h : HasDeck W d c) (ns : List Int) (m k : Int) : Wd where
  hid := W.hid
  inv H := W.inv H ∧ H d = some (deckO c m k) ∧ H c = some (.lst (ns.map V.int))
  loc H H' e x i := ⟨W.loc H H' e x i.1, by rw [e d h.hd]; exact i.2.1, by rw [e c h.hc]; exact i.2.2⟩
  live H a i q := W.live H a i.1 q
section
variable {K : PySem.W.Frag} {W : Wd} {d c : Addr} (hk : HasDeck W d c) {ns : List Int} {m k : Int} {Δ : DEnv} {te ta tb : TE} {t : TS} {P : DV → Prop} {nx bk ct : Wd → DEnv → Prop} {rt : Wd → DV → Prop} {i j : Nat}
theorem Le.exact : Wd.Le W (W.exact hk ns m k) := fun H i => ⟨i.1, Ex.refl _⟩
end
/-- the script stands, nothing is hidden -/
def Wd.script (K : PySem.W.Frag) (a : Addr) (ns : List Int) : Wd where
  hid _ := false
  inv H := SqL K H a (ns.map V.int)
  loc H H' _ e i := ex_l (fun b o h => by
    have := e b o (by unfold vw; rw [if_neg Bool.false_ne_true]; exact h)
    unfold vw at this
    rw [if_neg Bool.false_ne_true] at this
    exact this) i
  live _ _ _ h := by cases h
def knI : Kn := ⟨fun _ o => ∃ ns : List Int, o = .lst (ns.map V.int) ∧ ns.length ≤ 64, fun _ h => h⟩
end Ka
namespace Ka
open PySem PySem.Spec PyProof.Rows L2 Evl
section
variable {K : PySem.W.Frag} {a : Addr} {ns : List Int} {P : DV → Prop}
theorem cutV_map (ns : List Int) (lo hi : Option Int) : cutV (ns.map V.int) lo hi = (cutG ns lo hi).map V.int := by
  unfold cutV cutG
  rw [List.length_map, List.map_take, List.map_drop]
theorem sld_script {lo hi : Option Int} (k : P (.dat (.list ((cutG ns lo hi).map PyData.int)))) : SlD K (Wd.script K a ns) (rSlX K) (.raw (.ref a)) lo hi P := fun x H iv rx Q q => by
  have rx : x = .ref a := rx
  subst rx
  refine .inl ⟨a, _, rfl, iv, fun p hp => ?_⟩
  rw [cutV_map]
  exact q _ _ _ (Wd.inv_new iv hp) (Wd.view_ex (Ex.new hp)) k (Dq.newL iv hp (Dqs.ints _))
theorem cut_len {α : Type} (xs : List α) (lo hi : Option Int) : (cutG xs lo hi).length ≤ xs.length := by
  unfold cutG
  rw [List.length_take, List.length_drop]
  omega
theorem asg_by {te : TE} {i : Nat} {D : Ends} {σ : L2.St} {H : Hp} (h : te σ H fun x H1 => D.nx (σ.set i (some x)) H1) : tAsg te (gName i) D σ H := h
theorem top_view {H : Hp} : Wd.top.view H = H := by
  funext b
  exact vw_of rfl
end
end Ka
namespace Ka
open PySem PySem.Spec PyProof.Rows L2 Evl
section
variable {K : PySem.W.Frag} {W : Wd} {Δ : DEnv} {te : TE} {ta : TA} {u : TS} {nx bk ct : Wd → DEnv → Prop} {rt : Wd → DV → Prop} {i j : Nat} {g : TG}
theorem dq_set (h : DE K W Δ te fun e => DS K W (Δ.set i (some e)) u nx rt bk ct) : DS K W Δ (tSeq (tAsg te (gName i)) u) nx rt bk ct := ds_seq (ds_set h)
theorem dq_asg (h : DE K W Δ te fun e => ∃ Δ' js, Tg K g e Δ Δ' js ∧ DS K W Δ' u nx rt bk ct) : DS K W Δ (tSeq (tAsg te g) u) nx rt bk ct := ds_seq (ds_asg h)
theorem dq_par (h : DA K W Δ ta fun es => ∃ a b, es = [a, b] ∧ DS K W ((Δ.set i (some a)).set j (some b)) u nx rt bk ct) : DS K W Δ (tSeq (tPar i j ta) u) nx rt bk ct := ds_seq (ds_par h)
theorem dq_drop (h : DE K W Δ te fun _ => DS K W Δ u nx rt bk ct) : DS K W Δ (tSeq (tDrop te) u) nx rt bk ct := ds_seq (ds_drop h)
end
end Ka
namespace Ka
open PySem PySem.Spec PyProof.Rows L2 Evl
section
variable {X : Cx}
theorem cr_max2 (hc : X.calm = true) : CallR X (.builtin "max") rMax2 := call_max2 hc
theorem cr_min2 (hc : X.calm = true) : CallR X (.builtin "min") rMin2 := call_min2 hc
end
end Ka
namespace Ka
open PySem PySem.Spec PyProof.Rows L2 Evl
section
variable {K : PySem.W.Frag} {W : Wd} {Δ : DEnv} {tt : TT} {t u : TS} {nx bk ct : Wd → DEnv → Prop} {rt : Wd → DV → Prop}
/-- if tt: t, then the rest, which is shown once: from φ where the test fails -/
theorem dq_when (φ : Prop) (h : DT K W Δ tt fun b => (b = true → DS K W Δ t (fun W' Δ' => DS K W' Δ' u nx rt bk ct) rt bk ct) ∧ (b = false → φ)) (rest : φ → DS K W Δ u nx rt bk ct) : DS K W Δ (tSeq (tIfS tt t tNext) u) nx rt bk ct :=
  ds_seq (ds_if (h.mono fun b hb => ⟨hb.1, fun e => ds_next (rest (hb.2 e))⟩))
end
end Ka
namespace Ka
open PySem PySem.Spec PyProof.Rows L2 Evl
/-- a value as a test -/
def tTru (K : PySem.W.Frag) (ta : TE) : TT := fun σ H Q => ta σ H fun x H' => ∃ k, TruV K x H' k ∧ Q k H'
theorem pt_truK {X : Cx} {K : PySem.W.Frag} {a : Expr} {ta : TE} (e : X.K = K) (ha : PE X a ta) (he : ∀ whole, isTrue a X.env whole = (do let v ← whole; standAt a.pos; holding [v] (truthy v))) : PT X a (tTru K ta) := by
  subst e
  exact pt_truth ha he
def truD : PyData → Bool
  | .none => false
  | .bool b => b
  | .int i => i != 0
  | .str z => (z.length : Int) != 0
  | .list ds => !ds.isEmpty
  | .tuple ds => !ds.isEmpty
  | .dict _ => false
theorem dqs_empty {K : PySem.W.Frag} {H : Hp} {vs : List V} {ds : List PyData} (h : Dqs K H vs ds) : vs.isEmpty = ds.isEmpty := by
  cases h <;> rfl
theorem dt_tru {K : PySem.W.Frag} {W : Wd} {Δ : DEnv} {te : TE} {PB : Bool → Prop} (h : DE K W Δ te fun e => ∃ d, e = .dat d ∧ (∀ z, d = .str z → z.length ≤ 100000) ∧ PB (truD d)) : DT K W Δ (tTru K te) PB := fun σ H v i Q q =>
  h σ H v i _ fun x H1 e i1 x1 p1 r1 => by
    obtain ⟨d, rfl, hz, k⟩ := p1
    refine ⟨truD d, ?_, q _ H1 i1 x1 k⟩
    cases r1 with
    | non => rfl
    | bl b => rfl
    | int i => rfl
    | str z => exact ⟨sz_of (hz z rfl), rfl⟩
    | @lst a vs ds ha hv => exact .inl ⟨vs, SqL.of (Wd.view_le _ _ ha), by rw [dqs_empty hv]; rfl⟩
    | @tup a vs ds ha hv => exact .inr (.inl ⟨vs, ex_t Wd.view_le ha, by rw [dqs_empty hv]; rfl⟩)
theorem perm_reps {K : PySem.W.Frag} (n : Nat) (ix : List Nat) : ∀ (H : Hp) (vs zs : List V) (es fs : List DV), Reps K H vs es → Reps K H zs fs → Reps K H (perm n ix vs zs) (perm n ix es fs) := fun _ _ _ _ _ h1 h2 => perm_rel n ix h1 h2
theorem law_start {K : PySem.W.Frag} {C : Con} (hC : ∀ a ns, ns.length ≤ 63 → C (Wd.script K a ns) [.raw (.ref a)] fun e => e = .dat (.bool true)) {H : Hp} {a : Addr} {ns : List Int} (hl : ns.length ≤ 63) (hS : SqL K H a (ns.map V.int)) :
    SpC K C [.ref a] H (fun v _ => v = .bl true) fun _ _ _ => False :=
  ⟨Wd.script K a ns, _, _, hC a ns hl, hS, .cons rfl .nil, fun v H' e _ _ h r => by
    subst h
    cases r
    rfl⟩
end Ka

namespace Ka
open PySem PySem.Spec PyProof.Rows L2 Evl
/-! ### data as keys -/
mutual
def kd : PyData → NestedKey
  | .none => .none
  | .bool b => .num (if b = true then 1 else 0)
  | .int i => .num i
  | .str x => .text x
  | .tuple ds => .tup (kds ds)
  | .list _ => .none
  | .dict _ => .none
def kds : List PyData → List NestedKey
  | [] => []
  | d :: ds => kd d :: kds ds
end
mutual
def okKey : PyData → Bool
  | .tuple ds => okKeys ds
  | .list _ => false
  | .dict _ => false
  | .none => true
  | .bool _ => true
  | .int _ => true
  | .str _ => true
def okKeys : List PyData → Bool
  | [] => true
  | d :: ds => okKey d && okKeys ds
end
/-- a tuple that may be a key -/
def TupKey (d : PyData) : Prop := (∃ ds, d = .tuple ds) ∧ okKey d = true ∧ (kd d).depth ≤ 8
section
variable {X : Cx} {pins : List (Addr × Obj)} {σ : L2.St} {H : Hp} {s : Shared}
mutual
theorem key_is (I : Inv X pins σ H s) : ∀ {v : V} {d : PyData} {u : Value}, Dq X.K H v d → okKey d = true → RelV v u → NestedIs s.heap (kd d) u
  | _, _, _, .non, _, r => by
    cases r
    exact .none
  | _, _, _, .bl b, _, r => by
    cases r
    exact .bool rfl
  | _, _, _, .int i, _, r => by
    obtain ⟨t, rfl⟩ := r
    exact .int i t
  | _, _, _, .str x, _, r => by
    obtain ⟨t, rfl⟩ := r
    exact .text x t
  | _, _, _, .tup h hs, o, r => by
    cases r
    obtain ⟨its, rv, ⟨ob, ho, hc, n, hd⟩, _⟩ := I.tuple h
    exact .tup ho hc hd (keys_are I hs o rv)
theorem keys_are (I : Inv X pins σ H s) : ∀ {vs : List V} {ds : List PyData} {us : List Value}, Dqs X.K H vs ds → okKeys ds = true → Vals vs us → NestedAll s.heap (kds ds) us
  | _, _, _, .nil, _, r => by
    cases r
    exact .nil
  | _, _, _, .cons h hs, o, r => by
    cases r with
    | cons r1 r2 =>
      rw [okKeys, Bool.and_eq_true] at o
      exact .cons (key_is I h o.1 r1) (keys_are I hs o.2 r2)
end
theorem key_at (I : Inv X pins σ H s) {b : Addr} {d : PyData} (h : Dq X.K H (.ref b) d) (t : TupKey d) : Ks.KeyAt s.heap (kd d) b := ⟨key_is I h t.2.1 rfl, t.2.2⟩
/-- the set at a -/
def SetKO (w : World) (a : Addr) (L : List (Addr × NestedKey)) : HO := .ext fun h => ∃ es ep t, Ks.SN w h a L es ep t
theorem setKO_new {w : World} {P : Program} {h : Heap} {a : Addr} {L : List (Addr × NestedKey)} {es : Array (Int × Value)} {ep : Nat} {t : SetTable} (R : Ks.SN w h a L es ep t) : ObjOk P w H h a (SetKO w a L) := by
  obtain ⟨o, ho, r⟩ := R.ob
  exact ⟨⟨es, ep, t, R⟩, ⟨o, ho⟩, fun h1 h2 ⟨es, ep, t, p⟩ k => ⟨es, ep, t, p.keep k⟩⟩
/-- the members, each with what it stands for -/
def SetSays (K : PySem.W.Frag) (U : Hp) (ds : List PyData) (L : List (Addr × NestedKey)) : Prop := (∀ p ∈ L, ∃ d ∈ ds, p.2 = kd d ∧ Dq K U (.ref p.1) d) ∧ ∀ d ∈ ds, kd d ∈ L.map (·.2)
theorem keys_split {K : PySem.W.Frag} {U : Hp} : ∀ {vs : List V} {ds : List PyData}, Dqs K U vs ds → (∀ d ∈ ds, TupKey d) → ∃ ks : List (Addr × NestedKey), vs = ks.map (fun p => V.ref p.1) ∧ ks.map (·.2) = ds.map kd ∧ ∀ p ∈ ks, ∃ d ∈ ds, p.2 = kd d ∧ Dq K U (.ref p.1) d
  | _, _, .nil, _ => ⟨[], rfl, rfl, nofun⟩
  | _, _, .cons (v := v) (d := d) h hs, t => by
    obtain ⟨ks, e1, e2, e3⟩ := keys_split hs fun x m => t x (List.mem_cons_of_mem _ m)
    obtain ⟨⟨es, rfl⟩, _, _⟩ := t d (by simp)
    cases h with
    | @tup a xs _ h1 h2 =>
      refine ⟨(a, kd (.tuple es)) :: ks, by rw [e1]; rfl, by rw [List.map_cons, List.map_cons, e2], fun p m => ?_⟩
      rcases List.mem_cons.mp m with rfl | m
      · exact ⟨_, by simp, rfl, .tup h1 h2⟩
      · obtain ⟨d, m1, m2⟩ := e3 p m
        exact ⟨d, List.mem_cons_of_mem _ m1, m2⟩
/-- set(xs), xs a list or a tuple of tuples -/
def rSetN (w : World) (K : PySem.W.Frag) : List V → Hp → VK → Prop := fun xs H Q => ∃ (l : Addr) (vs : List V) (ds : List PyData) (U : Hp), xs = [.ref l] ∧ (SqL K H l vs ∨ SqT K H l vs) ∧ Ex U H ∧ Dqs K U vs ds ∧ (∀ d ∈ ds, TupKey d) ∧ ds.length < 1000 ∧
  ∀ (a : Addr) (L : List (Addr × NestedKey)), H a = none → SetSays K U ds L → Q (.ref a) (upd H a (SetKO w a L))
theorem vals_refs : ∀ {ks : List (Addr × NestedKey)} {us : List Value}, Vals (ks.map fun p => V.ref p.1) us → us = ks.map fun p => Value.ref p.1
  | [], _, .nil => rfl
  | p :: ks, _, .cons r t => by
    cases r
    rw [vals_refs t]
    rfl
theorem cr_setN (hc : X.calm = true) (hu : X.A.units + 64 < cLine) : CallR X (.type "set") (rSetN X.w X.K) := by
  intro pins s σ H xs us Q I r h
  obtain ⟨l, vs, ds, U, rfl, hl, hU, hd, ht, hz, q⟩ := h
  rw [Vals.ref1 r]
  obtain ⟨ks, e1, e2, e3⟩ := keys_split hd ht
  have hn : H s.heap.objs.size = none := I.hok.fresh (Nat.le_refl _)
  have hk : ∀ p ∈ ks, Ks.KeyAt s.heap p.2 p.1 := fun p m => by
    obtain ⟨d, m1, e, h1⟩ := e3 p m
    rw [e]
    exact key_at I (h1.mono hU) (ht d m1)
  have hlen : ks.length = ds.length := by simpa using congrArg List.length e2
  obtain ⟨its, rv, both⟩ : ∃ its : List Value, Vals vs its ∧ (s.heap.IsList l its.toArray ∨ s.heap.IsTuple l its.toArray) := by
    rcases hl with hl | hl
    · obtain ⟨its, rv, pl, _⟩ := I.list hl
      exact ⟨its, rv, .inl pl.isList⟩
    · obtain ⟨its, rv, pt, _⟩ := I.tuple hl
      exact ⟨its, rv, .inr pt⟩
  rw [e1] at rv
  refine Ks.set_of_keys (P := X.prog) (w := X.w) ks (I.ok.hd hc) both (by simpa using vals_refs rv) hk (by omega) (by omega) fun h' tk L es ep t R g keep => ?_
  refine ⟨.ref s.heap.objs.size, _, I.laid (t' := tk) keep (Nat.le_refl _) (setKO_new R), rfl, q _ L hn ⟨fun p m => e3 p (List.mem_of_mem_take (g.1 p m)), fun d m => ?_⟩⟩
  have : kd d ∈ ks.map (·.2) := by
    rw [e2]
    exact List.mem_map.mpr ⟨d, m, rfl⟩
  obtain ⟨p, m1, m2⟩ := List.mem_map.mp this
  rw [← m2]
  exact g.2.1 p (by rw [List.take_length]; exact m1)
/-- x in s, s a set of tuples -/
def rInN (w : World) (K : PySem.W.Frag) (neg : Bool) : R2 := fun x y H Q => ∃ (b a : Addr) (L : List (Addr × NestedKey)) (ds : List PyData) (d : PyData) (U : Hp), x = .ref b ∧ y = .ref a ∧ H a = some (SetKO w a L) ∧ Ex U H ∧ SetSays K U ds L ∧ (∀ d ∈ ds, TupKey d) ∧ Dq K U (.ref b) d ∧ TupKey d ∧
  Q (.bl (if neg then !decide (kd d ∈ ds.map kd) else decide (kd d ∈ ds.map kd))) H
theorem says_mem {K : PySem.W.Frag} {U : Hp} {ds : List PyData} {L : List (Addr × NestedKey)} (h : SetSays K U ds L) (k : NestedKey) : k ∈ L.map (·.2) ↔ k ∈ ds.map kd := by
  constructor
  · intro m
    obtain ⟨p, m1, rfl⟩ := List.mem_map.mp m
    obtain ⟨d, m2, e, _⟩ := h.1 p m1
    rw [e]
    exact List.mem_map.mpr ⟨d, m2, rfl⟩
  · intro m
    obtain ⟨d, m1, rfl⟩ := List.mem_map.mp m
    exact h.2 d m1
theorem in_any (hu : X.A.units + 64 < cLine) {K : PySem.W.Frag} (eK : X.K = K) {b a : Addr} {L : List (Addr × NestedKey)} {ds : List PyData} {d : PyData} {U : Hp} (I : Inv X pins σ H s) (ha : H a = some (SetKO X.w a L)) (hU : Ex U H) (hs : SetSays K U ds L) (ht : ∀ d ∈ ds, TupKey d) (hd : Dq K U (.ref b) d) (h1 : TupKey d) {E : Value → Shared → Prop} {Q : Bool → Shared → Prop}
    (q : ∀ tk, Q (decide (kd d ∈ ds.map kd)) { s with toks := s.toks + tk }) : wpAny (model X.prog X.w) X.A (contains (.ref a) (.ref b)) Q E s := by
  subst eK
  obtain ⟨es, ep, t, R⟩ := (I.hok a _ ha).1
  refine Ks.has_key R (fun p m => ?_) (key_at I (hd.mono hU) h1) (by omega) ?_
  · obtain ⟨d', m1, e, h2⟩ := hs.1 p m
    rw [e]
    exact key_at I (h2.mono hU) (ht d' m1)
  · rw [show decide (kd d ∈ L.map (·.2)) = decide (kd d ∈ ds.map kd) from decide_eq_decide.mpr (says_mem hs _)]
    exact q _
theorem op_inN (hu : X.A.units + 64 < cLine) : OpR X (compareOp .In) (rInN X.w X.K false) := by
  intro pins s σ H x y v u Q I rx ry h
  obtain ⟨b, a, L, ds, d, U, rfl, rfl, ha, hU, hs, ht, hd, h1, q⟩ := h
  cases rx
  cases ry
  show wpAny _ _ (do return Value.bool (← contains (.ref a) (.ref b))) _ _ s
  exact wpAny_bind (in_any hu rfl I ha hU hs ht hd h1 fun tk => wpAny_pure ⟨.bl _, H, I.tok _, rfl, q⟩)
theorem op_notInN (hu : X.A.units + 64 < cLine) : OpR X (compareOp .NotIn) (rInN X.w X.K true) := by
  intro pins s σ H x y v u Q I rx ry h
  obtain ⟨b, a, L, ds, d, U, rfl, rfl, ha, hU, hs, ht, hd, h1, q⟩ := h
  cases rx
  cases ry
  show wpAny _ _ (do return Value.bool (!(← contains (.ref a) (.ref b)))) _ _ s
  exact wpAny_bind (in_any hu rfl I ha hU hs ht hd h1 fun tk => wpAny_pure ⟨.bl _, H, I.tok _, rfl, q⟩)
/-- sorted(t), t a tuple -/
def rSortedT (K : PySem.W.Frag) : List V → Hp → VK → Prop := fun vs H Q => ∃ (a : Addr) (xs : List V) (ds : List PyData) (U : Hp), vs = [V.ref a] ∧ SqT K H a xs ∧ Ex U H ∧ Dqs K U xs ds ∧ PySem.W.AllAlike ds ∧ PySem.W.Sortable ds ∧ (∀ d ∈ ds, d.depth ≤ 60) ∧
  ∀ (ys : List V) (p : Addr), Dqs K U ys (ds.mergeSort (PySem.W.dataLe false id)) → H p = none → Q (.ref p) (upd H p (.lst ys))
theorem cr_sortedT (hu : X.A.units + 64 < cLine) : CallR X (.builtin "sorted") (rSortedT X.K) := by
  intro pins s σ H vs us Q I r h
  obtain ⟨a, xs, ds, U, rfl, ha, hU, hd, al, so, dep, q⟩ := h
  rw [Vals.ref1 r]
  obtain ⟨its, rv, pt, hz⟩ := I.tuple ha
  obtain ⟨as, rs⟩ := Dp.readsAll I ds xs its (hd.mono hU).dp rv
  have hlen : its.length = ds.length := by rw [← rv.length, hd.length]
  refine Ks.sorted_tup (vs := its) (bs := ds) (enc := id) (R := fun u d => ∃ v, RelV v u ∧ Dq X.K U v d) pt (each_three rv hd) (each_reads rs) (by simpa using al) (by simpa using so) (by rw [← hlen, ← rv.length]; exact hz) (fun d hd' => by have := dep d hd'; show X.A.units + 2 + d.depth < cLine; omega) fun out hol e => ?_
  obtain ⟨ys, ry, hy⟩ := three_back e
  obtain ⟨c, hc⟩ := sortedAll_get s.heap its out
  refine ⟨.ref (s.heap.objs.size + 1), upd H (s.heap.objs.size + 1) (.lst ys), I.laid (t' := s.toks) (fun b o e => PyProof.Rows.sortedAll_old e) (Nat.le_succ _) ⟨?_, out, c, ry, hc⟩, rfl, q ys _ hy (I.hok.fresh (Nat.le_succ _))⟩
  rw [ry.length, hol, ← hlen, ← rv.length]
  exact hz
end
section
variable {X : Cx} {K : PySem.W.Frag} {w : World} {W : Wd} {Δ : DEnv} {P : DV → Prop}
def rSetX (w : World) (K : PySem.W.Frag) : List V → Hp → VK → Prop := fun xs H Q => rSetI w K xs H Q ∨ rSetN w K xs H Q
theorem cr_setX (e : X.K = K) (e2 : X.w = w) (hc : X.calm = true) (hu : X.A.units + 64 < cLine) : CallR X (.type "set") (rSetX w K) := by
  subst e e2
  exact (cr_setI hc).or (cr_setN hc hu)
def rInX (w : World) (K : PySem.W.Frag) (neg : Bool) : R2 := fun x y H Q => rInQ K neg x y H Q ∨ rInN w K neg x y H Q
theorem op_inX (e : X.K = K) (e2 : X.w = w) (hu : X.A.units + 65 < cLine) : OpR X (compareOp .In) (rInX w K false) := by
  subst e e2
  exact (op_inQ hu).or (op_inN (by omega))
theorem op_notInX (e : X.K = K) (e2 : X.w = w) (hu : X.A.units + 65 < cLine) : OpR X (compareOp .NotIn) (rInX w K true) := by
  subst e e2
  exact (op_notInQ hu).or (op_notInN (by omega))
def rSortedY (w : World) (K : PySem.W.Frag) : List V → Hp → VK → Prop := fun vs H Q => rSortedX w K vs H Q ∨ rSortedT K vs H Q
theorem cr_sortedY (e : X.K = K) (e2 : X.w = w) (hc : X.calm = true) (hu : X.A.units + 64 < cLine) : CallR X (.builtin "sorted") (rSortedY w K) := by
  subst e e2
  exact (cr_sortedX hc hu).or (cr_sortedT hu)
/-- a set of tuples, by what they stand for -/
def setD (w : World) (ds : List PyData) : DV := .rel (fun K H v => ∃ a L, v = .ref a ∧ H a = some (SetKO w a L) ∧ SetSays K H ds L ∧ ∀ d ∈ ds, TupKey d) fun {K H H' v} x ⟨a, L, h1, h2, h3, h4⟩ => ⟨a, L, h1, x _ _ h2, ⟨fun p m => by
  obtain ⟨d, m1, e, h⟩ := h3.1 p m
  exact ⟨d, m1, e, h.mono x⟩, h3.2⟩, h4⟩
theorem cal_setT {ds : List PyData} (ht : ∀ d ∈ ds, TupKey d) (hz : ds.length < 1000) (k : P (setD w ds)) : CalD K W (rSetX w K) [.dat (.tuple ds)] P := fun xs H iv r Q q => by
  obtain ⟨x, rfl, rx⟩ := reps1 r
  cases rx with
  | @tup a vs _ ha hv =>
    refine .inr ⟨a, vs, ds, W.view H, rfl, .inr (ex_t Wd.view_le ha), Wd.view_le, hv, ht, hz, fun p L hp hs => ?_⟩
    refine q _ _ _ (Wd.inv_new iv hp) (Wd.view_ex (Ex.new hp)) k ?_
    have x := Wd.view_ex (W := W) (Ex.new (o := SetKO w p L) hp)
    refine ⟨p, L, rfl, ?_, ⟨fun z m => ?_, hs.2⟩, ht⟩
    · exact Wd.view_new iv hp
    · obtain ⟨d, m1, e, h⟩ := hs.1 z m
      exact ⟨d, m1, e, h.mono x⟩
theorem tup_ref {H : Hp} {v : V} {d : PyData} (h : Dq K H v d) (t : TupKey d) : ∃ b, v = .ref b := by
  obtain ⟨⟨es, rfl⟩, _⟩ := t
  cases h with
  | tup _ _ => exact ⟨_, rfl⟩
theorem opd_niS {d : PyData} {ds : List PyData} (t : TupKey d) (k : P (.dat (.bool (!decide (kd d ∈ ds.map kd))))) : OpD K W (rInX w K true) (.dat d) (setD w ds) P := fun x y H iv rx ry Q q => by
  obtain ⟨a, L, rfl, h2, h3, h4⟩ := ry
  obtain ⟨b, rfl⟩ := tup_ref rx t
  exact .inr ⟨b, a, L, ds, d, W.view H, rfl, rfl, Wd.view_le _ _ h2, Wd.view_le, h3, h4, rx, t, q _ H _ iv (Ex.refl _) k (.bl _)⟩
theorem opd_inXT {d : PyData} {ds : List PyData} (h1 : SeqAt.shaped d = true) (h2 : PyData.canLayAll0 ds = true) (k : P (.dat (.bool (ds.any fun z => PyData.eqv z d)))) : OpD K W (rInX w K false) (.dat d) (.dat (.tuple ds)) P := fun x y H iv rx ry Q q => .inl (opd_inT h1 h2 k x y H iv rx ry Q q)
theorem opd_niXL {d : PyData} {ds : List PyData} (h1 : SeqAt.shaped d = true) (h2 : PyData.canLayAll0 ds = true) (k : P (.dat (.bool (!ds.any fun z => PyData.eqv z d)))) : OpD K W (rInX w K true) (.dat d) (.dat (.list ds)) P := fun x y H iv rx ry Q q => .inl (opd_niL h1 h2 k x y H iv rx ry Q q)
theorem opd_niXT {d : PyData} {ds : List PyData} (h1 : SeqAt.shaped d = true) (h2 : PyData.canLayAll0 ds = true) (k : P (.dat (.bool (!ds.any fun z => PyData.eqv z d)))) : OpD K W (rInX w K true) (.dat d) (.dat (.tuple ds)) P := fun x y H iv rx ry Q q => .inl (opd_niT h1 h2 k x y H iv rx ry Q q)
theorem cal_setXI {ns : List Int} (hl : ns.length ≤ 1000) (k : ∀ c, c ≤ ns.length → P (.obj fun q => SetO w q (fun j => decide (j ∈ ns)) c)) : CalD K W (rSetX w K) [.dat (.tuple (ns.map PyData.int))] P := fun xs H iv r Q q => .inl (cal_setI hl k xs H iv r Q q)
theorem cal_sortedYL {ds : List PyData} (h1 : PySem.W.AllAlike ds) (h2 : PySem.W.Sortable ds) (h3 : ∀ d ∈ ds, d.depth ≤ 60) (k : P (.dat (.list (ds.mergeSort (PySem.W.dataLe false id))))) : CalD K W (rSortedY w K) [.dat (.list ds)] P := fun xs H iv r Q q => .inl (cal_sortedXL h1 h2 h3 k xs H iv r Q q)
theorem cal_sortedYS {S : Int → Bool} {n : Nat} (hn : n < 64) (k : ∀ ns : List Int, ns.Pairwise (· < ·) → (∀ k : Int, k ∈ ns ↔ S k = true) → ns.length = n → P (.dat (.list (ns.map PyData.int)))) : CalD K W (rSortedY w K) [.obj fun q => SetO w q S n] P := fun xs H iv r Q q => .inl (cal_sortedXS hn k xs H iv r Q q)
theorem cal_sortedYT {ds : List PyData} (h1 : PySem.W.AllAlike ds) (h2 : PySem.W.Sortable ds) (h3 : ∀ d ∈ ds, d.depth ≤ 60) (k : P (.dat (.list (ds.mergeSort (PySem.W.dataLe false id))))) : CalD K W (rSortedY w K) [.dat (.tuple ds)] P := fun xs H iv r Q q => by
  obtain ⟨x, rfl, rx⟩ := reps1 r
  cases rx with
  | @tup a vs _ ha hv =>
    exact .inr ⟨a, vs, ds, W.view H, rfl, ex_t Wd.view_le ha, Wd.view_le, hv, h1, h2, h3, fun ys p hy hp => q _ _ _ (Wd.inv_new iv hp) (Wd.view_ex (Ex.new hp)) k (Dq.newL iv hp hy)⟩
end
end Ka

namespace Ka
open PySem PySem.Spec PyProof.Rows L2 Evl
section
variable {K : PySem.W.Frag} {W : Wd} {Δ : DEnv} {te ta tb : TE} {P : DV → Prop} {nx bk ct : Wd → DEnv → Prop} {rt : Wd → DV → Prop}
theorem Dqs.rev {H : Hp} {vs : List V} {ds : List PyData} (h : Dqs K H vs ds) : Dqs K H vs.reverse ds.reverse := by
  induction vs generalizing ds with
  | nil =>
    cases h
    exact .nil
  | cons v vs ih =>
    cases h with
    | cons h hs =>
      rw [List.reverse_cons, List.reverse_cons]
      exact (ih hs).append (.cons h .nil)
theorem de_revT (h : DE K W Δ te fun e => ∃ ds, e = .dat (.tuple ds) ∧ P (.dat (.tuple ds.reverse))) : DE K W Δ (Ks.tRevT K te) P := fun σ H v i Q q =>
  h σ H v i _ fun x H1 e i1 x1 p1 r1 => by
    obtain ⟨ds, rfl, k⟩ := p1
    cases r1 with
    | @tup a vs _ ha hv => exact ⟨a, vs, rfl, ex_t Wd.view_le ha, fun p hp => q _ _ _ (Wd.inv_new i1 hp) (x1.trans (Wd.view_ex (Ex.new hp))) k (Dq.newT i1 hp hv.rev)⟩
theorem rgV_ints {a b : Int} : rgV a b = (rgN a (b - a).toNat).map V.int := by
  unfold rgV rgN
  rw [List.map_map]
  rfl
theorem de_lstRg2 (h : DE K W Δ ta fun a => ∃ i, a = .dat (.int i) ∧ DE K W Δ tb fun b => ∃ j, b = .dat (.int j) ∧ RgOk i j ∧ P (.dat (.list ((rgN i (j - i).toNat).map PyData.int)))) : DE K W Δ (tLstRg (tRg2 ta tb)) P := fun σ H v i Q q =>
  h σ H v i _ fun x H1 e i1 x1 p1 r1 => by
    obtain ⟨a, rfl, p1⟩ := p1
    cases r1
    refine p1 σ H1 (v.mono x1) i1 _ fun y H2 e2 i2 x2 p2 r2 => ?_
    obtain ⟨b, rfl, hr, k⟩ := p2
    cases r2
    refine ⟨a, b, rfl, rfl, hr, fun p hp => ?_⟩
    rw [rgV_ints]
    exact q _ _ _ (Wd.inv_new i2 hp) ((x1.trans x2).trans (Wd.view_ex (Ex.new hp))) k (Dq.newL i2 hp (Dqs.ints _))
/-! enumerate -/
def enumD (ds : List PyData) : List DV := ds.zipIdx.map fun p => DV.dat (.tuple [.int p.2, p.1])
theorem yl_ett {a : Addr} {vs : List V} {ds : List PyData} {V1 : Hp} (ha : SqT K V1 a vs) (hv : Dqs K V1 vs ds) : Yl K V1 (Ks.Ett K a) (enumD ds) := fun W' H2 x iv => by
  have h2 : SqT K H2 a vs := ex_t Wd.view_le (ex_t x ha)
  have hv2 := hv.mono x
  refine ⟨fun i e he => ?_, vs, h2, by unfold enumD; rw [List.length_map, List.length_zipIdx, hv.length]; exact Nat.le_refl _⟩
  unfold enumD at he
  rw [List.getElem?_map, List.getElem?_zipIdx] at he
  cases q : ds[i]? with
  | none =>
    rw [q] at he
    cases he
  | some d =>
    rw [q] at he
    cases he
    obtain ⟨v, q1, q2⟩ := hv2.getd q
    refine ⟨⟨vs, v, h2, q1⟩, fun y H3 hy => ?_⟩
    obtain ⟨T, x', rfl, hT, rfl, hx'⟩ := hy
    have e := hx' vs h2
    rw [q1] at e
    cases e
    refine ⟨Wd.inv_new iv hT, Wd.view_ex (Ex.new hT), ?_⟩
    rw [show 0 + i = i from Nat.zero_add i]
    exact Dq.newT iv hT (.cons (.int _) (.cons q2 .nil))
theorem di_enT {ta : TA} {PL : List DV → Prop} (h : DA K W Δ ta fun es => ∃ ds, es = [.dat (.tuple ds)] ∧ PL (enumD ds)) : DI K W Δ (Ks.iEnT K ta) PL := fun σ H v i R q =>
  h σ H v i _ fun xs H1 es i1 x1 p1 r1 => by
    obtain ⟨ds, rfl, k⟩ := p1
    obtain ⟨x, rfl, rx⟩ := reps1 r1
    cases rx with
    | @tup a vs _ ha hv => exact ⟨a, vs, rfl, ex_t Wd.view_le ha, q _ _ _ i1 x1 k (yl_ett ha hv)⟩
/-! ### lists that stand apart -/
def Wd.Keeps (W : Wd) (p : Addr) (φ : Kn) : Prop := ∀ H, W.inv H → ∃ o, H p = some o ∧ φ.of (W.view H) o
theorem Wd.Keeps.self {p : Addr} {φ : Kn} : (W.hide p φ).Keeps p φ := fun H i => Wd.hide_at i
theorem Wd.Keeps.hide {p q : Addr} {φ ψ : Kn} (k : W.Keeps p φ) : (W.hide q ψ).Keeps p φ := fun H i => by
  obtain ⟨i1, _⟩ := i
  obtain ⟨o, ho, h⟩ := k _ i1
  refine ⟨o, del_le _ _ ho, ?_⟩
  show φ.of (vw (hidAnd W.hid q) H) o
  rw [vw_del]
  exact h
theorem cal_lenH {p : Addr} {ds : List PyData} (k : W.Keeps p (knL K ds)) (q0 : P (.dat (.int (ds.length : Int)))) : CalD K W (rLenX K) [.raw (.ref p)] P := fun xs H iv r Q q => by
  obtain ⟨x, rfl, rx⟩ := reps1 r
  have rx : x = .ref p := rx
  subst rx
  obtain ⟨o, ho, vs, rfl, hv⟩ := k H iv
  rw [← hv.length] at q0
  exact .inl ⟨p, vs, rfl, .inl (SqL.of ho), q _ H _ iv (Ex.refl _) q0 (.int _)⟩
theorem ds_parRg {i j : Nat} (h : DE K W Δ te fun e => DE K W Δ ta fun a => ∃ lo, a = .dat (.int lo) ∧ DE K W Δ tb fun b => ∃ hi, b = .dat (.int hi) ∧ RgOk lo hi ∧ ∀ p, W.hid p = false → nx (W.hide p (knL K ((rgN lo (hi - lo).toNat).map PyData.int))) ((Δ.set i (some e)).set j (some (.raw (.ref p))))) :
    DS K W Δ (tPar i j (tCons te (tCons (tLstRg (tRg2 ta tb)) tNil))) nx rt bk ct := fun σ H D v iv c =>
  h σ H v iv _ fun y H1 e i1 x1 p1 r1 => p1 σ H1 (v.mono x1) i1 _ fun z H2 a i2 x2 p2 r2 => by
    obtain ⟨lo, rfl, p2⟩ := p2
    cases r2
    refine p2 σ H2 (v.mono (x1.trans x2)) i2 _ fun z2 H3 b i3 x3 p3 r3 => ?_
    obtain ⟨hi, rfl, ok, k⟩ := p3
    cases r3
    refine ⟨lo, hi, rfl, rfl, ok, fun p hp => ?_⟩
    obtain ⟨n1, n2⟩ := Wd.hide_new (φ := knL K ((rgN lo (hi - lo).toNat).map PyData.int)) (o := .lst (rgV lo hi)) i3 hp ⟨_, rfl, by rw [rgV_ints]; exact Dqs.ints _⟩
    refine ⟨y, .ref p, rfl, ?_⟩
    refine c.nx _ _ _ _ (k p (Wd.hid_none i3 hp)) n1 (by rw [n2]; exact (x1.trans x2).trans x3) ?_
    rw [n2]
    exact ((v.mono ((x1.trans x2).trans x3)).set (r1.mono (x2.trans x3))).set rfl
theorem Wd.hide_put2 {H : Hp} {p q : Addr} {u : HO} {φ ψ ψ' : Kn} (i : ((W.hide q ψ).hide p φ).inv H) (h : ψ'.of (((W.hide q ψ).hide p φ).view H) u) :
    ((W.hide q ψ').hide p φ).inv (upd H q u) ∧ ((W.hide q ψ').hide p φ).view (upd H q u) = ((W.hide q ψ).hide p φ).view H ∧ q ≠ p := by
  obtain ⟨i1, o, ho, k⟩ := i
  have hne : q ≠ p := fun z => (W.hide q ψ).live (del H p) q i1 hidAnd_self (by rw [z]; exact del_self)
  have e : del (upd H q u) p = upd (del H p) q u := by
    funext a
    by_cases ap : a = p
    · rw [ap, del_self, upd_ne (Ne.symm hne), del_self]
    · rw [del_ne ap]
      by_cases aq : a = q
      · rw [aq, upd_same, upd_same]
      · rw [upd_ne aq, upd_ne aq, del_ne ap]
  have ev : ∀ ψ H, ((W.hide q ψ).hide p φ).view H = (W.hide q ψ).view (del H p) := fun ψ H => vw_del
  rw [ev] at h
  obtain ⟨z1, z2⟩ := Wd.hide_put i1 h
  rw [← e] at z1 z2
  refine ⟨⟨z1, o, by rw [upd_ne (Ne.symm hne)]; exact ho, ?_⟩, by rw [ev, ev]; exact z2, hne⟩
  show φ.of ((W.hide q ψ').view (del (upd H q u) p)) o
  rw [z2]
  exact k
theorem Dqs.erase {H : Hp} : ∀ {vs : List V} {ds : List PyData} {k : Nat}, Dqs K H vs ds → Dqs K H (vs.eraseIdx k) (ds.eraseIdx k)
  | _, _, 0, .cons h hs => hs
  | _, _, _ + 1, .cons h hs => .cons h (Dqs.erase hs)
  | _, _, _, .nil => by
    simp
    exact .nil
/-- row.append(left.pop(at)) -/
theorem ds_mv {i j : Nat} {p q : Addr} {ls rs : List PyData} (hi : Δ[i]? = some (some (.raw (.ref p)))) (hj : Δ[j]? = some (some (.raw (.ref q)))) (hz : rs.length < 100000)
    (h : DE K ((W.hide q (knL K ls)).hide p (knL K rs)) Δ te fun e => ∃ (r : Nat) (d : PyData), e = .dat (.int r) ∧ r < 1000000 ∧ ls[r]? = some d ∧ nx ((W.hide q (knL K (ls.eraseIdx r))).hide p (knL K (rs ++ [d]))) Δ) :
    DS K ((W.hide q (knL K ls)).hide p (knL K rs)) Δ (tDrop (tBM K "list" rAppend (tVar i) (tCons (tBM K "list" rPopAt (tVar j) (tCons te tNil)) tNil))) nx rt bk ct := fun σ H D v iv c => by
  obtain ⟨x, hx, rx⟩ := v.at_ i _ hi
  have rx : x = .ref p := rx
  subst rx
  obtain ⟨y, hy, ry⟩ := v.at_ j _ hj
  have ry : y = .ref q := ry
  subst ry
  obtain ⟨o, ho, xs, rfl, hxs⟩ := Wd.Keeps.self H iv
  obtain ⟨o', ho', ys, rfl, hys⟩ := (Wd.Keeps.self (W := W) (p := q) (φ := knL K ls)).hide H iv
  refine ⟨.ref p, hx, .inl ⟨rfl, xs, SqL.of ho⟩, .ref q, hy, .inl ⟨rfl, ys, SqL.of ho'⟩, ?_⟩
  refine h σ H v iv _ fun z H1 e i1 x1 p1 r1 => ?_
  obtain ⟨r, d, rfl, hr, hd, hn⟩ := p1
  cases r1
  obtain ⟨o1, ho1, xs1, rfl, hxs1⟩ := Wd.Keeps.self H1 i1
  obtain ⟨o2, ho2, ys1, rfl, hys1⟩ := (Wd.Keeps.self (W := W) (p := q) (φ := knL K ls)).hide H1 i1
  obtain ⟨u, hu, ru⟩ := hys1.getd hd
  have hlt := (List.getElem?_eq_some_iff.mp hu).1
  refine ⟨q, ys1, (r : Int), r, u, rfl, rfl, ho2, by omega, by omega, ?_, hu, ?_⟩
  · unfold seqIndex?
    simp
    omega
  obtain ⟨m1, m2, hne⟩ := Wd.hide_put2 (ψ' := knL K (ls.eraseIdx r)) (u := .lst (ys1.eraseIdx r)) i1 ⟨_, rfl, hys1.erase⟩
  have hl := hxs1.length
  refine ⟨p, xs1, u, rfl, rfl, by rw [upd_ne (Ne.symm hne)]; exact ho1, sz_lt (by omega), ?_⟩
  obtain ⟨z1, z2⟩ := Wd.hide_put (ψ := knL K (rs ++ [d])) (u := .lst (xs1 ++ [u])) m1 ⟨_, rfl, by rw [m2]; exact hxs1.append (.cons ru .nil)⟩
  refine c.nx _ Δ σ _ hn z1 (by rw [z2, m2]; exact x1) ?_
  rw [z2, m2]
  exact v.mono x1
end
section
variable {X : Cx} {K : PySem.W.Frag}
theorem pi_enTK {e : Expr} {ta : TA} {p pos tpos : Pos} {elts : List Expr} {kk : Nat} (eK : X.K = K) (hg : Gl X "enumerate") (hm : X.mg "enumerate" = none) (ha : PA X [e] ta) (hs : starEach [e] X.env = [(false, eval e X.env)] := by rfl) :
    PI X (.Tuple elts kk tpos) (.Call (.Name "enumerate" p) [e] [] pos) (Ks.iEnT K ta) := by
  subst eK
  exact Ks.pi_enT hg hm ha hs
theorem pe_revTK {e : Expr} {te : TE} {k : Nat} {p1 p2 p3 pos : Pos} (e1 : X.K = K) (he : PE X e te) : PE X (.Subscript e (.Slice none none (some (.UnaryOp .USub (.Constant (.int 1) k p1) p2)) p3) pos) (Ks.tRevT K te) := by
  subst e1
  exact Ks.pe_revT he
end
def relab (env : Env) (p : Str × NameKind) : Str × NameKind := (p.1, if (p.2 == NameKind.free && env.scope.kind == .function && env.kindOf p.1 == some NameKind.cell) = true then .cell else p.2)
theorem relabel_eq (sc : Scope) (env : Env) : (relabel sc env).names = sc.names.map (relab env) := by
  show sc.names.map _ = _
  refine List.map_congr_left fun p _ => ?_
  obtain ⟨n, k⟩ := p
  unfold relab
  dsimp only
  split
  · rfl
  · rfl
theorem look_map {env : Env} {y : Str} : ∀ {names : List (Str × NameKind)} {k : NameKind}, names.lookup y = some k → (k = .cell ∨ k = .free) → (names.map (relab env)).lookup y = some .cell ∨ (names.map (relab env)).lookup y = some .free
  | [], _, h, _ => by simp at h
  | (n, k') :: r, k, h, hk => by
    rw [List.lookup_cons] at h
    rw [List.map_cons, show relab env (n, k') = (n, (relab env (n, k')).2) from rfl, List.lookup_cons]
    by_cases e : (y == n) = true
    · rw [e] at h ⊢
      have h : k' = k := Option.some.inj h
      subst h
      show some (relab env (n, k')).2 = some .cell ∨ some (relab env (n, k')).2 = some .free
      unfold relab
      dsimp only
      split
      · exact .inl rfl
      · rcases hk with rfl | rfl
        · exact .inl rfl
        · exact .inr rfl
    · have e : (y == n) = false := by simpa using e
      rw [e] at h ⊢
      exact look_map h hk
/-- a block in a block -/
theorem blk_deep {N : List Str} {sc scope : Scope} {env : Env} {own : List (Str × Nat)} (h : blkC N sc scope own = true) : BlkOk N (relabel sc env) scope own := by
  have b := blkOk_by h
  refine ⟨b.kind, b.uniq, b.ix, fun y hy e => ?_, b.own⟩
  rw [relabel_eq]
  rcases b.free y hy e with z | z
  · exact look_map z (.inl rfl)
  · exact look_map z (.inr rfl)
end Ka

namespace Ka
open PySem PySem.Spec PyProof.Rows L2 Evl Kd
/-! ### dicts that stand apart, by their data -/
def okd (K : PySem.W.Frag) (H : Hp) (x : Ent) : Prop := ∃ d, Dq K H (.ref x.2.1) d ∧ TupKey d ∧ x.1 = kd d
theorem okd.le {K : PySem.W.Frag} {U H : Hp} {x : Ent} (e : Ex U H) (h : okd K U x) : okd K H x := by
  obtain ⟨d, h1, h2, h3⟩ := h
  exact ⟨d, h1.mono e, h2, h3⟩
theorem okd_key {X Y : Cx} {pins : List (Addr × Obj)} {σ : L2.St} {H : Hp} {s : Shared} {x : Ent} (e1 : Y.prog = X.prog) (e2 : Y.w = X.w) (e3 : Y.K = X.K) (I : Inv Y pins σ H s) (h : okd X.K H x) : (nestedKind X.prog X.w).is s.heap x.1 x.2.1 := by
  obtain ⟨d, h1, h2, h3⟩ := h
  rw [← e3] at h1
  rw [h3]
  exact key_at I h1 h2
def DicIs (K : PySem.W.Frag) (U : Hp) (xs : List Ent) (m : List (PyData × PyData)) : Prop := Paired (fun x p => x.1 = kd p.1 ∧ Dq K U (.ref x.2.1) p.1 ∧ TupKey p.1 ∧ Dq K U x.2.2 p.2) xs m
theorem DicIs.mono {K : PySem.W.Frag} {U H : Hp} (e : Ex U H) : ∀ {xs : List Ent} {m : List (PyData × PyData)}, DicIs K U xs m → DicIs K H xs m
  | _, _, .nil => .nil
  | _, _, .cons ⟨h1, h2, h3, h4⟩ t => .cons ⟨h1, h2.mono e, h3, h4.mono e⟩ (DicIs.mono e t)
theorem DicIs.okd {K : PySem.W.Frag} {U : Hp} : ∀ {xs : List Ent} {m : List (PyData × PyData)}, DicIs K U xs m → ∀ x ∈ xs, okd K U x
  | _, _, .nil, x, h => nomatch h
  | _, _, .cons ⟨h1, h2, h3, h4⟩ t, x, h => by
    rcases List.mem_cons.mp h with rfl | h
    · exact ⟨_, h2, h3, h1⟩
    · exact DicIs.okd t x h
def getM (m : List (PyData × PyData)) (k : NestedKey) : Option PyData := (m.find? fun p => decide (kd p.1 = k)).map (·.2)
def putM (m : List (PyData × PyData)) (d e : PyData) : List (PyData × PyData) := if (getM m (kd d)).isSome then m.map fun p => if kd p.1 = kd d then (p.1, e) else p else m ++ [(d, e)]
theorem dic_get {K : PySem.W.Frag} {U : Hp} {k : NestedKey} : ∀ {xs : List Ent} {m : List (PyData × PyData)}, DicIs K U xs m → (entV xs k = none ∧ getM m k = none) ∨ ∃ v e, entV xs k = some v ∧ getM m k = some e ∧ Dq K U v e
  | [], _, .nil => .inl ⟨rfl, rfl⟩
  | x :: xs, p :: m, .cons ⟨h1, h2, h3, h4⟩ t => by
    unfold entV getM
    by_cases c : x.1 = k
    · rw [List.find?_cons_of_pos (by simpa using c), List.find?_cons_of_pos (by rw [← h1]; simpa using c)]
      exact .inr ⟨_, _, rfl, rfl, h4⟩
    · rw [List.find?_cons_of_neg (by simpa using c), List.find?_cons_of_neg (by rw [← h1]; simpa using c)]
      exact dic_get t
theorem dic_map {K : PySem.W.Frag} {U : Hp} {k : NestedKey} {v : V} {e : PyData} (hv : Dq K U v e) : ∀ {xs : List Ent} {m : List (PyData × PyData)}, DicIs K U xs m → DicIs K U (xs.map fun x => if x.1 = k then (x.1, x.2.1, v) else x) (m.map fun p => if kd p.1 = k then (p.1, e) else p)
  | [], _, .nil => .nil
  | x :: xs, p :: m, .cons ⟨h1, h2, h3, h4⟩ t => by
    refine .cons ?_ (dic_map hv t)
    show (fun (x : Ent) (p : PyData × PyData) => x.1 = kd p.1 ∧ Dq K U (.ref x.2.1) p.1 ∧ TupKey p.1 ∧ Dq K U x.2.2 p.2) (if x.1 = k then (x.1, x.2.1, v) else x) (if kd p.1 = k then (p.1, e) else p)
    by_cases c : x.1 = k
    · rw [if_pos c, if_pos (by rw [← h1]; exact c)]
      exact ⟨h1, h2, h3, hv⟩
    · rw [if_neg c, if_neg (by rw [← h1]; exact c)]
      exact ⟨h1, h2, h3, h4⟩
theorem dic_put {K : PySem.W.Frag} {U : Hp} {xs : List Ent} {m : List (PyData × PyData)} {b : Addr} {v : V} {d e : PyData} (h : DicIs K U xs m) (hb : Dq K U (.ref b) d) (ht : TupKey d) (hv : Dq K U v e) : DicIs K U (entPut xs (kd d) b v) (putM m d e) := by
  unfold entPut putM
  rcases dic_get (k := kd d) h with ⟨e1, e2⟩ | ⟨z, y, e1, e2, _⟩
  · rw [e1, e2]
    exact Paired.snoc h ⟨rfl, hb, ht, hv⟩
  · rw [e1, e2]
    exact dic_map hv h
theorem putM_len (m : List (PyData × PyData)) (d e : PyData) : (putM m d e).length ≤ m.length + 1 := by
  unfold putM
  split
  · rw [List.length_map]
    omega
  · rw [List.length_append]
    exact Nat.le_refl _
/-- what is known of a dict: its entries, as data -/
def knDic (P : Program) (w : World) (K : PySem.W.Frag) (p : Addr) (m : List (PyData × PyData)) : Kn where
  of U o := ∃ xs, o = DicO P w p xs ∧ DicIs K U xs m
  mono e h := by
    obtain ⟨xs, h1, h2⟩ := h
    exact ⟨xs, h1, h2.mono e⟩
section
variable {K : PySem.W.Frag} {W : Wd} {Δ : DEnv} {tt : TT} {tk tv : TE} {P : Program} {w : World} {nx bk ct : Wd → DEnv → Prop} {rt : Wd → DV → Prop}
/-- x in d, d a dict -/
def rInDic (P : Program) (w : World) (K : PySem.W.Frag) (neg : Bool) : R2 := fun x y H Q => ∃ (b a : Addr) (xs : List Ent) (d : PyData) (U : Hp), x = .ref b ∧ y = .ref a ∧ H a = some (DicO P w a xs) ∧ Ex U H ∧ (∀ z ∈ xs, okd K U z) ∧ Dq K U (.ref b) d ∧ TupKey d ∧
  Q (.bl (if neg then !(entV xs (kd d)).isSome else (entV xs (kd d)).isSome)) H
theorem dic_has {X : Cx} {pins : List (Addr × Obj)} {σ : L2.St} {H U : Hp} {s : Shared} (hu : X.A.units + 64 < cLine) (I : Inv X pins σ H s) {a b : Addr} {xs : List Ent} {d : PyData} (ha : H a = some (DicO X.prog X.w a xs)) (hU : Ex U H) (hx : ∀ z ∈ xs, okd X.K U z) (hb : Dq X.K U (.ref b) d) (ht : TupKey d) {E : Value → Shared → Prop} {Q : Bool → Shared → Prop}
    (q : ∀ tk, Q (entV xs (kd d)).isSome { s with toks := s.toks + tk }) : wpAny (model X.prog X.w) X.A (contains (.ref a) (.ref b)) Q E s := by
  obtain ⟨_, hs, ys, rel, dd⟩ := dic_of I ha fun z m => okd_key (X := X) rfl rfl rfl I ((hx z m).le hU)
  refine wpAny_contains_heap (show X.A.units + 1 + 8 < cLine by omega) (key_at I (hb.mono hU) ht) hs dd ?_
  have e : (atKey ys (kd d)).isSome = (entV xs (kd d)).isSome := by
    rcases ent_at (k := kd d) rel with ⟨e1, e2⟩ | ⟨_, _, e1, e2, _⟩ <;> rw [e1, e2] <;> rfl
  rw [e]
  exact q _
theorem op_inDic {X : Cx} (hu : X.A.units + 64 < cLine) : OpR X (compareOp .In) (rInDic X.prog X.w X.K false) := by
  intro pins s σ H x y v u Q I rx ry h
  obtain ⟨b, a, xs, d, U, rfl, rfl, ha, hU, hx, hb, ht, q⟩ := h
  cases rx
  cases ry
  show wpAny _ _ (do return Value.bool (← contains (.ref a) (.ref b))) _ _ s
  exact wpAny_bind (dic_has hu I ha hU hx hb ht fun tk => wpAny_pure ⟨.bl _, H, I.tok _, rfl, q⟩)
theorem op_notInDic {X : Cx} (hu : X.A.units + 64 < cLine) : OpR X (compareOp .NotIn) (rInDic X.prog X.w X.K true) := by
  intro pins s σ H x y v u Q I rx ry h
  obtain ⟨b, a, xs, d, U, rfl, rfl, ha, hU, hx, hb, ht, q⟩ := h
  cases rx
  cases ry
  show wpAny _ _ (do return Value.bool (!(← contains (.ref a) (.ref b)))) _ _ s
  exact wpAny_bind (dic_has hu I ha hU hx hb ht fun tk => wpAny_pure ⟨.bl _, H, I.tok _, rfl, q⟩)
theorem opd_inD {p : Addr} {m : List (PyData × PyData)} {d : PyData} {PX : DV → Prop} (k : W.Keeps p (knDic P w K p m)) (t : TupKey d) (q0 : PX (.dat (.bool (getM m (kd d)).isSome))) : OpD K W (rInDic P w K false) (.dat d) (.raw (.ref p)) PX := fun x y H iv rx ry Q q => by
  have ry : y = .ref p := ry
  subst ry
  obtain ⟨b, rfl⟩ := tup_ref rx t
  obtain ⟨o, ho, xs, rfl, hx⟩ := k H iv
  have e : (entV xs (kd d)).isSome = (getM m (kd d)).isSome := by
    rcases dic_get (k := kd d) hx with ⟨e1, e2⟩ | ⟨_, _, e1, e2, _⟩ <;> rw [e1, e2] <;> rfl
  refine ⟨b, p, xs, d, W.view H, rfl, rfl, ho, Wd.view_le, hx.okd, rx, t, ?_⟩
  show Q (.bl (entV xs (kd d)).isSome) H
  rw [e]
  exact q _ H _ iv (Ex.refl _) q0 (.bl _)
theorem opd_niD {p : Addr} {m : List (PyData × PyData)} {d : PyData} {PX : DV → Prop} (k : W.Keeps p (knDic P w K p m)) (t : TupKey d) (q0 : PX (.dat (.bool (!(getM m (kd d)).isSome)))) : OpD K W (rInDic P w K true) (.dat d) (.raw (.ref p)) PX := fun x y H iv rx ry Q q => by
  have ry : y = .ref p := ry
  subst ry
  obtain ⟨b, rfl⟩ := tup_ref rx t
  obtain ⟨o, ho, xs, rfl, hx⟩ := k H iv
  have e : (entV xs (kd d)).isSome = (getM m (kd d)).isSome := by
    rcases dic_get (k := kd d) hx with ⟨e1, e2⟩ | ⟨_, _, e1, e2, _⟩ <;> rw [e1, e2] <;> rfl
  refine ⟨b, p, xs, d, W.view H, rfl, rfl, ho, Wd.view_le, hx.okd, rx, t, ?_⟩
  show Q (.bl (!(entV xs (kd d)).isSome)) H
  rw [e]
  exact q _ H _ iv (Ex.refl _) q0 (.bl _)
theorem ds_dic {wi : TI} {g : TG} {ws : List Nat} {ix : Nat}
    (hi : DI K W Δ wi fun es => es.length ≤ 50000 ∧ ∃ A : Nat → List (PyData × PyData) → Prop, A 0 [] ∧ (∀ i e m W', es[i]? = some e → A i m → Hid W W' → ∃ Δ1 js, Tg K g e (wipeD Δ ws) Δ1 js ∧ (∀ j ∈ js, j ∈ ws) ∧
      DT K W' Δ1 tt fun b => (b = true → DE K W' Δ1 tk fun y => ∃ d, y = .dat d ∧ TupKey d ∧ DE K W' Δ1 tv fun z => ∃ e, z = .dat e ∧ A (i + 1) (putM m d e)) ∧ (b = false → A (i + 1) m)) ∧
      ∀ m, A es.length m → m.length ≤ es.length → ∀ p, W.hid p = false → nx (W.hide p (knDic P w K p m)) (Δ.set ix (some (.raw (.ref p))))) :
    DS K W Δ (tAsg (tDcT P w K okd wi g tt tk tv ws) (gName ix)) nx rt bk ct := fun σ H Dn v i c => hi σ H v i _ fun J H1 es i1 x1 p1 y1 => by
  obtain ⟨hz, A, h0, hs, hd⟩ := p1
  intro D hD
  have hp := Wd.hid_none i1 hD
  obtain ⟨n1, n2⟩ := Wd.hide_new (φ := knDic P w K D []) (o := DicO P w D []) i1 hD ⟨[], rfl, .nil⟩
  refine ⟨fun k m' H' => m' = es.length - k ∧ k ≤ es.length ∧ ∃ m, A k m ∧ m.length ≤ k ∧ (W.hide D (knDic P w K D m)).inv H' ∧ Ex (W.view H1) ((W.hide D (knDic P w K D m)).view H'), ⟨_, rfl, Nat.zero_le _, [], h0, Nat.le_refl _, n1, by rw [n2]; exact Ex.refl _⟩, ?_⟩
  rintro k m' H' ⟨rfl, hk, m, hA, hl, i', x'⟩
  obtain ⟨yg, ys⟩ := y1 _ H' x' i'
  by_cases hlt : k < es.length
  · obtain ⟨g1, g2⟩ := yg k es[k] (List.getElem?_eq_getElem hlt)
    refine .inr ⟨g1, fun H2 => k + 1 ≤ es.length ∧ ∃ m, A (k + 1) m ∧ m.length ≤ k + 1 ∧ (W.hide D (knDic P w K D m)).inv H2 ∧ Ex (W.view H1) ((W.hide D (knDic P w K D m)).view H2), fun H2 ⟨q1, q2⟩ => ⟨es.length - (k + 1), by omega, rfl, q1, q2⟩, fun x H2 hy => ?_⟩
    obtain ⟨i2, x2, r2⟩ := g2 x H2 hy
    obtain ⟨Δ1, js, ht, hjs, hb⟩ := hs k es[k] m _ (List.getElem?_eq_getElem hlt) hA ⟨D, _, rfl, hp⟩
    refine ht (W.hide D (knDic P w K D m)) (wipe σ ws) H2 x _ (v.mono ((x1.trans x').trans x2)).wipe r2 fun σ3 v3 w3 => ⟨by rw [w3 ws hjs, wipe_none], ?_⟩
    refine hb σ3 H2 v3 i2 _ fun b H3 i3 x3 p3 => ?_
    cases b with
    | true =>
      show tk σ3 H3 _
      refine p3.1 rfl σ3 H3 (v3.mono x3) i3 _ fun y H4 e4 i4 x4 p4 r4 => ?_
      obtain ⟨d, rfl, td, p4⟩ := p4
      refine p4 σ3 H4 (v3.mono (x3.trans x4)) i4 _ fun z H5 e5 i5 x5 p5 r5 => ?_
      obtain ⟨e, rfl, hA5⟩ := p5
      obtain ⟨o, ho, xs, rfl, hx⟩ := Wd.hide_at i5
      have r4 : Dq K ((W.hide D (knDic P w K D m)).view H5) y d := Dq.mono x5 r4
      obtain ⟨c', rfl⟩ := tup_ref r4 td
      have hlen : xs.length = m.length := Paired.length hx
      have hl2 := putM_len m d e
      refine ⟨xs, kd d, c', rfl, ho, fun x hm => (hx.okd x hm).le Wd.view_le, okd.le Wd.view_le ⟨d, r4, td, rfl⟩, sz_lt (by omega), by omega, putM m d e, hA5, by omega, ?_⟩
      obtain ⟨z1, z2⟩ := Wd.hide_put (ψ := knDic P w K D (putM m d e)) (u := DicO P w D (entPut xs (kd d) c' z)) i5 ⟨_, rfl, dic_put hx r4 td r5⟩
      refine ⟨z1, ?_⟩
      rw [z2]
      exact (((x'.trans x2).trans x3).trans x4).trans x5
    | false =>
      show _ ∧ _
      exact ⟨by omega, m, p3.2 rfl, by omega, i3, (x'.trans x2).trans x3⟩
  · have e : k = es.length := by omega
    subst e
    exact .inl ⟨ys, c.nx _ _ _ _ (hd m hA hl D hp) i' (x1.trans x') ((v.mono (x1.trans x')).set rfl)⟩
/-- d[k] = v -/
def sPutD (P : Program) (w : World) (K : PySem.W.Frag) (td ty tv : TE) : TS := fun D σ H => tv σ H fun z H1 => td σ H1 fun x H2 => ty σ H2 fun y H3 => ∃ (a b : Addr) (xs : List Ent) (k : NestedKey), x = .ref a ∧ y = .ref b ∧ H3 a = some (DicO P w a xs) ∧ (∀ e ∈ xs, okd K H3 e) ∧ okd K H3 (k, b, z) ∧ xs.length < sizeLine ∧
  D.nx σ (upd H3 a (DicO P w a (entPut xs k b z)))
theorem ps_putD {X : Cx} {o i value : Expr} {pos pos' : Pos} {td ty tv : TE} (hu : X.A.units + 64 < cLine) (ho : PE X o td) (hi : PE X i ty) (hv : PE X value tv) (hs : swapsWith value (some (.Subscript o i pos')) pos.line X.env = pure false) :
    PS X (.Assign [.Subscript o i pos'] value pos) (sPutD X.prog X.w X.K td ty tv) := by
  refine ⟨fun pins s σ H D I h => wpAny_Assign_Subscript (thn (hv.run pins s σ H _ I h) fun r s1 ⟨v, H1, I1, rv, q1⟩ => thn (ho.run pins s1 σ H1 _ I1 q1) fun u s2 ⟨x, H2, I2, rx, q2⟩ => thn (hi.run pins s2 σ H2 _ I2 q2) fun iv s3 ⟨y, H3, I3, ry, a, b, xs, k, ex, ey, ha, hx, hk, hl, q3⟩ => ?_) hs⟩
  subst ex ey
  obtain rfl : u = Value.ref a := rx
  obtain rfl : iv = Value.ref b := ry
  obtain ⟨z, hd, ys, rel, dd⟩ := dic_of I3 ha fun e m => okd_key (X := X) rfl rfl rfl I3 (hx e m)
  have hz : ys.length ≤ sizeLine := by rw [← Paired.length rel]; exact z
  have hl2 := entPut_len xs k b v
  have kb : (nestedKind X.prog X.w).is s3.heap k b := okd_key (X := X) rfl rfl rfl I3 hk
  refine wpAny_setItem_heap (hsz := hz) (show X.A.units + 1 + 8 < cLine by omega) kb dd fun h' ⟨q, es, ep, hq, h2, h3, h4, _, h5⟩ hs => ?_
  exact ⟨σ, _, d_write I3 (by rw [ha]; exact True.intro) hs ⟨q, hq⟩ (dicO_ok (by omega) hd (ent_put rel rv) hq h2 h3 h4 h5), q3⟩
theorem ds_putD {p : Addr} {i : Nat} {m : List (PyData × PyData)} {ty : TE} (hi : Δ[i]? = some (some (.raw (.ref p)))) (hz : m.length < 100000)
    (h : DE K (W.hide p (knDic P w K p m)) Δ tv fun z => ∃ e, z = .dat e ∧ DE K (W.hide p (knDic P w K p m)) Δ ty fun y => ∃ d, y = .dat d ∧ TupKey d ∧ nx (W.hide p (knDic P w K p (putM m d e))) Δ) :
    DS K (W.hide p (knDic P w K p m)) Δ (sPutD P w K (tVar i) ty tv) nx rt bk ct := fun σ H D v iv c =>
  h σ H v iv _ fun z H1 e1 i1 x1 p1 r1 => by
    obtain ⟨e, rfl, p1⟩ := p1
    obtain ⟨x, hx, rx⟩ := v.at_ i _ hi
    have rx : x = .ref p := rx
    subst rx
    refine ⟨.ref p, hx, p1 σ H1 (v.mono x1) i1 _ fun y H2 e2 i2 x2 p2 r2 => ?_⟩
    obtain ⟨d, rfl, td, hn⟩ := p2
    obtain ⟨o, ho, xs, rfl, hxs⟩ := Wd.hide_at i2
    have r2 : Dq K _ y d := r2
    obtain ⟨b, rfl⟩ := tup_ref r2 td
    have hlen : xs.length = m.length := Paired.length hxs
    refine ⟨p, b, xs, kd d, rfl, rfl, ho, fun z hm => (hxs.okd z hm).le Wd.view_le, okd.le Wd.view_le ⟨d, r2, td, rfl⟩, sz_lt (by omega), ?_⟩
    obtain ⟨z1, z2⟩ := Wd.hide_put (ψ := knDic P w K p (putM m d e)) (u := DicO P w p (entPut xs (kd d) b z)) i2 ⟨_, rfl, dic_put hxs r2 td (Dq.mono x2 r1)⟩
    refine c.nx _ Δ σ _ hn z1 (by rw [z2]; exact x1.trans x2) ?_
    rw [z2]
    exact v.mono (x1.trans x2)
end
section
variable {X : Cx} {P : Program} {w : World} {K : PySem.W.Frag} {W : Wd} {PX : DV → Prop}
def rInZ (P : Program) (w : World) (K : PySem.W.Frag) (neg : Bool) : R2 := fun x y H Q => rInX w K neg x y H Q ∨ rInDic P w K neg x y H Q
theorem op_inZ (e1 : X.prog = P) (e2 : X.w = w) (e3 : X.K = K) (hu : X.A.units + 65 < cLine) : OpR X (compareOp .In) (rInZ P w K false) := by
  subst e1 e2 e3
  exact (op_inX rfl rfl hu).or (op_inDic (by omega))
theorem op_notInZ (e1 : X.prog = P) (e2 : X.w = w) (e3 : X.K = K) (hu : X.A.units + 65 < cLine) : OpR X (compareOp .NotIn) (rInZ P w K true) := by
  subst e1 e2 e3
  exact (op_notInX rfl rfl hu).or (op_notInDic (by omega))
theorem opd_niZS {d : PyData} {ds : List PyData} (t : TupKey d) (k : PX (.dat (.bool (!decide (kd d ∈ ds.map kd))))) : OpD K W (rInZ P w K true) (.dat d) (setD w ds) PX := fun x y H iv rx ry Q q => .inl (opd_niS t k x y H iv rx ry Q q)
theorem opd_inZT {d : PyData} {ds : List PyData} (h1 : SeqAt.shaped d = true) (h2 : PyData.canLayAll0 ds = true) (k : PX (.dat (.bool (ds.any fun z => PyData.eqv z d)))) : OpD K W (rInZ P w K false) (.dat d) (.dat (.tuple ds)) PX := fun x y H iv rx ry Q q => .inl (opd_inXT h1 h2 k x y H iv rx ry Q q)
theorem opd_niZL {d : PyData} {ds : List PyData} (h1 : SeqAt.shaped d = true) (h2 : PyData.canLayAll0 ds = true) (k : PX (.dat (.bool (!ds.any fun z => PyData.eqv z d)))) : OpD K W (rInZ P w K true) (.dat d) (.dat (.list ds)) PX := fun x y H iv rx ry Q q => .inl (opd_niXL h1 h2 k x y H iv rx ry Q q)
theorem opd_niZT {d : PyData} {ds : List PyData} (h1 : SeqAt.shaped d = true) (h2 : PyData.canLayAll0 ds = true) (k : PX (.dat (.bool (!ds.any fun z => PyData.eqv z d)))) : OpD K W (rInZ P w K true) (.dat d) (.dat (.tuple ds)) PX := fun x y H iv rx ry Q q => .inl (opd_niXT h1 h2 k x y H iv rx ry Q q)
theorem opd_inZD {p : Addr} {m : List (PyData × PyData)} {d : PyData} (k : W.Keeps p (knDic P w K p m)) (t : TupKey d) (q0 : PX (.dat (.bool (getM m (kd d)).isSome))) : OpD K W (rInZ P w K false) (.dat d) (.raw (.ref p)) PX := fun x y H iv rx ry Q q => .inr (opd_inD k t q0 x y H iv rx ry Q q)
theorem opd_niZD {p : Addr} {m : List (PyData × PyData)} {d : PyData} (k : W.Keeps p (knDic P w K p m)) (t : TupKey d) (q0 : PX (.dat (.bool (!(getM m (kd d)).isSome)))) : OpD K W (rInZ P w K true) (.dat d) (.raw (.ref p)) PX := fun x y H iv rx ry Q q => .inr (opd_niD k t q0 x y H iv rx ry Q q)
theorem pe_dcTK {kx vx tg iter : Expr} {ifs : List Expr} {scope : Scope} {own : List (Str × Nat)} {pos : Pos} {wi : TI} {g : TG} {tt : TT} {tk tv : TE} (e1 : X.prog = P) (e2 : X.w = w) (e3 : X.K = K) (hu : X.A.units + 64 < cLine) (hc : X.calm = true) (hN : X.N.Nodup) (hi : PI X tg iter wi) (ok : BlkOk X.N X.env.scope scope own)
    (hg : ∀ (s : Shared) (H : Hp) (C : Addr) (cl : List (Str × Addr)) (fp : List Addr), PG (X.blk s H scope (compEnvC scope cl C X.env) fp) tg g) (ht : ∀ (s : Shared) (H : Hp) (C : Addr) (cl : List (Str × Addr)) (fp : List Addr), PTs (X.blk s H scope (compEnvC scope cl C X.env) fp) ifs tt)
    (hk : ∀ (s : Shared) (H : Hp) (C : Addr) (cl : List (Str × Addr)) (fp : List Addr), PE (X.blk s H scope (compEnvC scope cl C X.env) fp) kx tk) (he : ∀ (s : Shared) (H : Hp) (C : Addr) (cl : List (Str × Addr)) (fp : List Addr), PE (X.blk s H scope (compEnvC scope cl C X.env) fp) vx tv)
    (hs : ∀ x, foldedSetIterable iter X.env x = pure x := by intro _; rfl) : PE X (.DictComp kx vx [⟨tg, iter, ifs, 0⟩] scope pos) (tDcT P w K okd wi g tt tk tv (own.map (·.2))) := by
  subst e1 e2 e3
  exact pe_dcT (fun e1 e2 e3 I h => okd_key e1 e2 e3 I h) (by omega) hc hN hi ok hg ht hk he hs
theorem ps_putDK {o i value : Expr} {pos pos' : Pos} {td ty tv : TE} (e1 : X.prog = P) (e2 : X.w = w) (e3 : X.K = K) (hu : X.A.units + 64 < cLine) (ho : PE X o td) (hi : PE X i ty) (hv : PE X value tv) (hs : swapsWith value (some (.Subscript o i pos')) pos.line X.env = pure false := by rfl) :
    PS X (.Assign [.Subscript o i pos'] value pos) (sPutD P w K td ty tv) := by
  subst e1 e2 e3
  exact ps_putD hu ho hi hv hs
/-- a dict that nobody changes any more -/
def dicD (P : Program) (w : World) (m : List (PyData × PyData)) : DV := .rel (fun K H v => ∃ a xs, v = .ref a ∧ H a = some (DicO P w a xs) ∧ DicIs K H xs m) fun {K H H' v} x ⟨a, xs, h1, h2, h3⟩ => ⟨a, xs, h1, x _ _ h2, h3.mono x⟩
theorem dic_is {H : Hp} {x y : V} {m : List (PyData × PyData)} {d : PyData} (rx : RepV K (W.view H) x (.dat d)) (ry : RepV K (W.view H) y (dicD P w m)) (t : TupKey d) : ∃ b a xs, x = .ref b ∧ y = .ref a ∧ H a = some (DicO P w a xs) ∧ DicIs K (W.view H) xs m ∧ Dq K (W.view H) (.ref b) d ∧ (entV xs (kd d)).isSome = (getM m (kd d)).isSome := by
  obtain ⟨a, xs, rfl, h2, h3⟩ := ry
  obtain ⟨b, rfl⟩ := tup_ref rx t
  refine ⟨b, a, xs, rfl, rfl, Wd.view_le _ _ h2, h3, rx, ?_⟩
  rcases dic_get (k := kd d) h3 with ⟨e1, e2⟩ | ⟨_, _, e1, e2, _⟩ <;> rw [e1, e2] <;> rfl
theorem opd_inZV {m : List (PyData × PyData)} {d : PyData} (t : TupKey d) (q0 : PX (.dat (.bool (getM m (kd d)).isSome))) : OpD K W (rInZ P w K false) (.dat d) (dicD P w m) PX := fun x y H iv rx ry Q q => by
  obtain ⟨b, a, xs, rfl, rfl, h1, h2, h3, e⟩ := dic_is rx ry t
  refine .inr ⟨b, a, xs, d, W.view H, rfl, rfl, h1, Wd.view_le, h2.okd, h3, t, ?_⟩
  show Q (.bl (entV xs (kd d)).isSome) H
  rw [e]
  exact q _ H _ iv (Ex.refl _) q0 (.bl _)
theorem opd_niZV {m : List (PyData × PyData)} {d : PyData} (t : TupKey d) (q0 : PX (.dat (.bool (!(getM m (kd d)).isSome)))) : OpD K W (rInZ P w K true) (.dat d) (dicD P w m) PX := fun x y H iv rx ry Q q => by
  obtain ⟨b, a, xs, rfl, rfl, h1, h2, h3, e⟩ := dic_is rx ry t
  refine .inr ⟨b, a, xs, d, W.view H, rfl, rfl, h1, Wd.view_le, h2.okd, h3, t, ?_⟩
  show Q (.bl (!(entV xs (kd d)).isSome)) H
  rw [e]
  exact q _ H _ iv (Ex.refl _) q0 (.bl _)
/-- the dict is seen again -/
theorem ds_seeD {Δ : DEnv} {nx bk ct : Wd → DEnv → Prop} {rt : Wd → DV → Prop} {t : TS} {i p : Nat} {m : List (PyData × PyData)} (hp : W.hid p = false) (hi : Δ[i]? = some (some (.raw (.ref p)))) (h : DS K W (Δ.set i (some (dicD P w m))) t nx rt bk ct) : DS K (W.hide p (knDic P w K p m)) Δ t nx rt bk ct := fun σ H D v iv c => by
  obtain ⟨x, hx, rx⟩ := v.at_ i _ hi
  have rx : x = .ref p := rx
  subst rx
  obtain ⟨u1, u2, o, ho, xs, rfl, hxs⟩ := Wd.unhide hp iv
  refine h σ H D ⟨by rw [List.length_set]; exact v.len, fun j e q => ?_⟩ u1 (c.step u2)
  by_cases hj : i = j
  · subst hj
    by_cases hl : i < Δ.length
    · rw [List.getElem?_set_self hl] at q
      cases q
      exact ⟨.ref p, hx, p, xs, rfl, ho, hxs⟩
    · rw [List.getElem?_eq_none (by simpa using hl)] at q
      cases q
  · rw [List.getElem?_set_ne hj] at q
    obtain ⟨y, h1, h2⟩ := v.at_ j e q
    exact ⟨y, h1, h2.mono u2⟩
end
end Ka

namespace Ka
open PySem PySem.Spec PyProof.Rows L2 Evl
section
variable {K : PySem.W.Frag} {W : Wd} {Δ : DEnv} {te ta tb ty : TE} {PL : List PyData → Prop} {nx bk ct : Wd → DEnv → Prop} {rt : Wd → DV → Prop}
/-- an expression that makes a new list that no one else has -/
def DN (K : PySem.W.Frag) (W : Wd) (Δ : DEnv) (te : TE) (PL : List PyData → Prop) : Prop :=
  ∀ (σ : L2.St) (H : Hp), EnvOk K (W.view H) σ Δ → W.inv H → ∀ Q : VK, (∀ ds p H1 vs, W.inv H1 → Ex (W.view H) (W.view H1) → H1 p = none → Dqs K (W.view H1) vs ds → PL ds → Q (.ref p) (upd H1 p (.lst vs))) → te σ H Q
theorem dn_lst {tr : TA} (h : DA K W Δ tr fun es => ∃ ds, es = ds.map DV.dat ∧ ds.length ≤ 100000 ∧ PL ds) : DN K W Δ (tLst tr) PL := fun σ H v i Q q =>
  h σ H v i _ fun xs H1 es i1 x1 p1 r1 => by
    obtain ⟨ds, rfl, hl, k⟩ := p1
    have hd := Reps.dats r1
    exact ⟨sz_of (by rw [hd.length]; exact hl), fun p hp => q ds p H1 xs i1 x1 hp hd k⟩
theorem dn_nil (k : PL []) : DN K W Δ (tLst tNil) PL := dn_lst (da_nil ⟨[], rfl, Nat.zero_le _, k⟩)
theorem dn_list (h : DE K W Δ te fun e => ∃ ds, (e = .dat (.list ds) ∨ e = .dat (.tuple ds)) ∧ PL ds) : DN K W Δ (tCB (rLstX K) (tCons te tNil)) PL := fun σ H v i Q q =>
  h σ H v i _ fun x H1 e i1 x1 p1 r1 => by
    obtain ⟨ds, he, k⟩ := p1
    rcases he with rfl | rfl
    · cases r1 with
      | @lst a vs _ ha hv => exact ⟨a, vs, rfl, .inl (SqL.of (Wd.view_le _ _ ha)), fun p hp => q ds p H1 vs i1 x1 hp hv k⟩
    · cases r1 with
      | @tup a vs _ ha hv => exact ⟨a, vs, rfl, .inr (ex_t Wd.view_le ha), fun p hp => q ds p H1 vs i1 x1 hp hv k⟩
theorem ds_setN {i : Nat} (h : DN K W Δ te fun ds => ∀ p, W.hid p = false → nx (W.hide p (knL K ds)) (Δ.set i (some (.raw (.ref p))))) : DS K W Δ (tAsg te (gName i)) nx rt bk ct := fun σ H D v iv c =>
  h σ H v iv _ fun ds p H1 vs i1 x1 hp hv k => by
    obtain ⟨n1, n2⟩ := Wd.hide_new (φ := knL K ds) (o := .lst vs) i1 hp ⟨_, rfl, hv⟩
    refine c.nx _ _ _ _ (k p (Wd.hid_none i1 hp)) n1 (by rw [n2]; exact x1) ?_
    rw [n2]
    exact (v.mono x1).set rfl
/-- a, b = two new lists -/
theorem ds_parNN {i j : Nat} (h : DN K W Δ te fun ds => ∀ p, W.hid p = false → DN K (W.hide p (knL K ds)) Δ tb fun es => ∀ q, (W.hide p (knL K ds)).hid q = false → nx ((W.hide p (knL K ds)).hide q (knL K es)) ((Δ.set i (some (.raw (.ref p)))).set j (some (.raw (.ref q))))) :
    DS K W Δ (tPar i j (tCons te (tCons tb tNil))) nx rt bk ct := fun σ H D v iv c =>
  h σ H v iv _ fun ds p H1 vs i1 x1 hp hv k => by
    obtain ⟨n1, n2⟩ := Wd.hide_new (φ := knL K ds) (o := .lst vs) i1 hp ⟨_, rfl, hv⟩
    refine k p (Wd.hid_none i1 hp) σ (upd H1 p (.lst vs)) (by rw [n2]; exact v.mono x1) n1 _ fun es q H2 us i2 x2 hq hu k2 => ?_
    obtain ⟨m1, m2⟩ := Wd.hide_new (φ := knL K es) (o := .lst us) i2 hq ⟨_, rfl, hu⟩
    refine ⟨.ref p, .ref q, rfl, ?_⟩
    have x3 : Ex (W.view H) ((W.hide p (knL K ds)).view H2) := by
      rw [n2] at x2
      exact x1.trans x2
    refine c.nx _ _ _ _ (k2 q (Wd.hid_none i2 hq)) m1 (by rw [m2]; exact x3) ?_
    rw [m2]
    exact ((v.mono x3).set (e := .raw (.ref p)) rfl).set (e := .raw (.ref q)) rfl
/-- found[i] = e, the list apart -/
theorem Dqs.set {H : Hp} : ∀ {vs : List V} {ds : List PyData} {j : Nat} {v : V} {d : PyData}, Dqs K H vs ds → Dq K H v d → Dqs K H (vs.set j v) (ds.set j d)
  | _, _, _, _, _, .nil, _ => .nil
  | _, _, 0, _, _, .cons h hs, r => .cons r hs
  | _, _, _ + 1, _, _, .cons h hs, r => .cons h (Dqs.set hs r)
theorem opd_niB {a b : Bool} {P : DV → Prop} (k : P (.dat (.bool (!decide (a = b))))) : OpD K W rNotB (.dat (.bool a)) (.dat (.bool b)) P := fun x y H iv rx ry Q q => by
  cases rx
  cases ry
  exact ⟨a, b, rfl, rfl, q _ H _ iv (Ex.refl _) k (.bl _)⟩
/-- while, by a measure -/
theorem ds_while {tc : TT} {tb : TS} (I : Nat → Wd → DEnv → Prop) (h0 : ∃ m, I m W Δ) (hs : ∀ m W' Δ', I m W' Δ' → DT K W' Δ' tc fun b => (b = true → DS K W' Δ' tb (fun W2 Δ2 => ∃ m', m' < m ∧ I m' W2 Δ2) rt nx (fun W2 Δ2 => ∃ m', m' < m ∧ I m' W2 Δ2)) ∧ (b = false → nx W' Δ')) : DS K W Δ (tWhile tc tb) nx rt bk ct := fun σ H D v i c => by
  obtain ⟨m0, h0⟩ := h0
  refine ⟨fun m σ' H' => ∃ W' Δ', I m W' Δ' ∧ W'.inv H' ∧ Ex (W.view H) (W'.view H') ∧ EnvOk K (W'.view H') σ' Δ', ⟨m0, W, Δ, h0, i, Ex.refl _, v⟩, ?_⟩
  rintro m σ' H' ⟨W', Δ', hI, i', x', v'⟩
  refine hs m W' Δ' hI σ' H' v' i' _ fun b H1 i1 x1 p1 => ?_
  cases b with
  | true =>
    refine ⟨fun σ2 H2 => ∃ m', m' < m ∧ ∃ W' Δ', I m' W' Δ' ∧ W'.inv H2 ∧ Ex (W.view H) (W'.view H2) ∧ EnvOk K (W'.view H2) σ2 Δ', fun σ2 H2 q => q, ?_⟩
    refine p1.1 rfl σ' H1 _ (v'.mono x1) i1 ⟨fun W4 Δ4 σ4 H4 n4 i4 x4 v4 => ?_, fun W4 e4 v4 H4 n4 i4 x4 r4 => c.rt W4 e4 v4 H4 n4 i4 ((x'.trans x1).trans x4) r4, fun W4 Δ4 σ4 H4 n4 i4 x4 v4 => c.nx W4 Δ4 σ4 H4 n4 i4 ((x'.trans x1).trans x4) v4, fun W4 Δ4 σ4 H4 n4 i4 x4 v4 => ?_⟩
    · obtain ⟨m', hm, hI'⟩ := n4
      exact ⟨m', hm, W4, Δ4, hI', i4, (x'.trans x1).trans x4, v4⟩
    · obtain ⟨m', hm, hI'⟩ := n4
      exact ⟨m', hm, W4, Δ4, hI', i4, (x'.trans x1).trans x4, v4⟩
  | false => exact c.nx W' Δ' σ' H1 (p1.2 rfl) i1 (x'.trans x1) (v'.mono x1)
theorem ds_no {tt : TT} {t : TS} (h : DT K W Δ tt fun b => b = false) (k : nx W Δ) : DS K W Δ (tIfS tt t tNext) nx rt bk ct :=
  ds_if (h.mono fun b hb => ⟨fun e => absurd (hb.symm.trans e) Bool.false_ne_true, fun _ => ds_next k⟩)
end
end Ka

namespace Ka
open PySem PySem.Spec PyProof.Rows L2 Evl
section
variable {K : PySem.W.Frag} {W : Wd} {Δ : DEnv} {te ta tb : TE} {P : DV → Prop}
end
end Ka

namespace Ka
open PySem PySem.Spec PyProof.Rows L2 Evl
section
variable {X : Cx} {a b c d : Expr} {ta tb tc td : TE} {pos : Pos}
end
section
variable {X : Cx} {K : PySem.W.Frag} {W : Wd} {Δ : DEnv} {ta tb tc td : TE} {P : DV → Prop}
end
end Ka

/-! Kc1: the deck of the later laws -/
namespace Ka
open PySem PySem.Spec PyProof.Rows L2 Evl
def deckO2 (c : Addr) (m k : Int) : HO := .dK [(Sum.inr ("cells" : Str), .ref c), (Sum.inr ("mixed" : Str), .int m), (Sum.inr ("turn" : Str), .int k)]
structure HasDeck2 (W : Wd) (d c : Addr) : Prop where
  hd : W.hid d = true
  hc : W.hid c = true
  ne : d ≠ c
  get : ∀ H, W.inv H → ∃ (ns : List Int) (m k : Int), H d = some (deckO2 c m k) ∧ H c = some (.lst (ns.map V.int)) ∧ ns.length ≤ 64
  put : ∀ (H H' : Hp) (ns : List Int) (m k : Int), W.inv H → (∀ a, a ≠ d → a ≠ c → H' a = H a) → H' d = some (deckO2 c m k) → H' c = some (.lst (ns.map V.int)) → ns.length ≤ 64 → W.inv H'
theorem HasDeck2.hide {W : Wd} {d c : Addr} (h : HasDeck2 W d c) {l : Addr} {φ : Kn} : HasDeck2 (W.hide l φ) d c where
  hd := hidAnd_of h.hd
  hc := hidAnd_of h.hc
  ne := h.ne
  get H i := by
    obtain ⟨i1, _⟩ := i
    obtain ⟨ns, m, k, h1, h2, h3⟩ := h.get _ i1
    exact ⟨ns, m, k, del_le _ _ h1, del_le _ _ h2, h3⟩
  put H H' ns m k i off h1 h2 h3 := by
    obtain ⟨i1, o, ho, p⟩ := i
    obtain ⟨ns0, m0, k0, g1, g2, _⟩ := h.get _ i1
    have nd : d ≠ l := fun e => by
      rw [e, del_self] at g1
      cases g1
    have nc : c ≠ l := fun e => by
      rw [e, del_self] at g2
      cases g2
    have off' : ∀ a, a ≠ d → a ≠ c → del H' l a = del H l a := fun a e1 e2 => by
      by_cases e : a = l
      · rw [e, del_self, del_self]
      · rw [del_ne e, del_ne e, off a e1 e2]
    refine ⟨h.put (del H l) (del H' l) ns m k i1 off' (by rw [del_ne nd]; exact h1) (by rw [del_ne nc]; exact h2) h3, o, by rw [off l nd.symm nc.symm]; exact ho, ?_⟩
    rw [vw_off h.hd h.hc off']
    exact p
theorem HasDeck2.hid {W W' : Wd} {d c : Addr} (h : HasDeck2 W d c) (e : Hid W W') : HasDeck2 W' d c := by
  obtain ⟨p, φ, rfl, _⟩ := e
  exact h.hide
/-- the deck as it stands -/
def Wd.exact2 (W : Wd) {d c : Addr} (h : HasDeck2 W d c) (ns : List Int) (m k : Int) : Wd where
  hid := W.hid
  inv H := W.inv H ∧ H d = some (deckO2 c m k) ∧ H c = some (.lst (ns.map V.int))
  loc H H' e x i := ⟨W.loc H H' e x i.1, by rw [e d h.hd]; exact i.2.1, by rw [e c h.hc]; exact i.2.2⟩
  live H a i q := W.live H a i.1 q
section
variable {K : PySem.W.Frag} {W : Wd} {d c : Addr} (hk : HasDeck2 W d c) {ns : List Int} {m k : Int} {Δ : DEnv} {te ta tb : TE} {t : TS} {P : DV → Prop} {nx bk ct : Wd → DEnv → Prop} {rt : Wd → DV → Prop} {i j : Nat}
theorem Le.exact2 : Wd.Le W (W.exact2 hk ns m k) := fun H i => ⟨i.1, Ex.refl _⟩
theorem ds_exact2 (h : ∀ ns m k, ns.length ≤ 64 → DS K (W.exact2 hk ns m k) Δ t nx rt bk ct) : DS K W Δ t nx rt bk ct := fun σ H D v i cn => by
  obtain ⟨ns, m, k, h1, h2, h3⟩ := hk.get H i
  exact h ns m k h3 σ H D v ⟨i, h1, h2⟩ ⟨cn.nx, cn.rt, cn.bk, cn.ct⟩
theorem exact_put2 {H H' : Hp} {ns' : List Int} {m' k' : Int} (i : (W.exact2 hk ns m k).inv H) (off : ∀ a, a ≠ d → a ≠ c → H' a = H a) (h1 : H' d = some (deckO2 c m' k')) (h2 : H' c = some (.lst (ns'.map V.int))) (h3 : ns'.length ≤ 64) :
    (W.exact2 hk ns' m' k').inv H' ∧ (W.exact2 hk ns' m' k').view H' = (W.exact2 hk ns m k).view H :=
  ⟨⟨hk.put H H' ns' m' k' i.1 off h1 h2 h3, h1, h2⟩, vw_off hk.hd hk.hc off⟩
theorem de_mixed2 (hi : Δ[i]? = some (some (.raw (.ref d)))) (q : P (.dat (.int m))) : DE K (W.exact2 hk ns m k) Δ (tDGet (tVar i) (tC (.str "mixed"))) P := fun σ H v iv Q qq => by
  obtain ⟨x, h1, h2⟩ := v.at_ i _ hi
  have h2 : x = .ref d := h2
  subst h2
  exact ⟨.ref d, h1, d, .int m, rfl, .inl ⟨_, Sum.inr "mixed", .inl iv.2.1, rfl, rfl⟩, qq _ H _ iv (Ex.refl _) q (.int m)⟩
theorem de_draws2 (hi : Δ[i]? = some (some (.raw (.ref d)))) (q : P (.dat (.int k))) : DE K (W.exact2 hk ns m k) Δ (tDGet (tVar i) (tC (.str "turn"))) P := fun σ H v iv Q qq => by
  obtain ⟨x, h1, h2⟩ := v.at_ i _ hi
  have h2 : x = .ref d := h2
  subst h2
  exact ⟨.ref d, h1, d, .int k, rfl, .inl ⟨_, Sum.inr "turn", .inl iv.2.1, rfl, rfl⟩, qq _ H _ iv (Ex.refl _) q (.int k)⟩
theorem de_cells2 (hi : Δ[i]? = some (some (.raw (.ref d)))) (q : P (.raw (.ref c))) : DE K (W.exact2 hk ns m k) Δ (tDGet (tVar i) (tC (.str "cells"))) P := fun σ H v iv Q qq => by
  obtain ⟨x, h1, h2⟩ := v.at_ i _ hi
  have h2 : x = .ref d := h2
  subst h2
  exact ⟨.ref d, h1, d, .ref c, rfl, .inl ⟨_, Sum.inr "cells", .inl iv.2.1, rfl, rfl⟩, qq _ H _ iv (Ex.refl _) q rfl⟩
theorem ds_draws2 (hi : Δ[i]? = some (some (.raw (.ref d)))) (hl : ns.length ≤ 64) (h : DE K (W.exact2 hk ns m k) Δ te fun e => ∃ n, e = .dat (.int n) ∧ nx (W.exact2 hk ns m n) Δ) : DS K (W.exact2 hk ns m k) Δ (sDPut (tVar i) (tC (.str "turn")) te) nx rt bk ct := fun σ H D v iv cn => by
  refine h σ H v iv _ fun y H1 e i1 x1 p1 r1 => ?_
  obtain ⟨n, rfl, q⟩ := p1
  cases r1
  obtain ⟨x, h1, h2⟩ := (v.mono x1).at_ i _ hi
  have h2 : x = .ref d := h2
  subst h2
  obtain ⟨z1, z2⟩ := exact_put2 hk (ns' := ns) (m' := m) (k' := n) i1 (H' := upd H1 d (deckO2 c m n)) (fun a e1 _ => upd_ne e1) upd_same (by rw [upd_ne hk.ne.symm]; exact i1.2.2) hl
  refine ⟨.ref d, h1, d, upd H1 d (deckO2 c m n), rfl, .inl ⟨_, Sum.inr "turn", i1.2.1, rfl, by show 3 < sizeLine; decide, ?_⟩, ?_⟩
  · congr 1
  · refine cn.nx _ Δ σ _ q z1 ?_ ?_
    · rw [z2]; exact x1
    · rw [z2]; exact v.mono x1
theorem opd_cells2 (q : P (.dat (.bool (!decide (ns = []))))) : OpD K (W.exact2 hk ns m k) (rNeS K) (.raw (.ref c)) (.dat (.list [])) P := fun x y H iv rx ry Q qq => by
  have rx : x = .ref c := rx
  subst rx
  have e : PyData.eqv (.list (ns.map PyData.int)) (.list []) = decide (ns = []) := by
    cases ns with
    | nil => simp [PyData.eqv, PyData.eqvAll]
    | cons a r => simp [PyData.eqv, PyData.eqvAll]
  have lay : ∀ l : List Int, PyData.canLayAll0 (l.map PyData.int) = true ∧ PyData.depthAll (l.map PyData.int) = 0 := fun l => by
    induction l with
    | nil => exact ⟨rfl, rfl⟩
    | cons a r ih =>
      refine ⟨?_, ?_⟩
      · show (PyData.canLay0 (.int a) && PyData.canLayAll0 (r.map PyData.int)) = true
        rw [ih.1]
        rfl
      · show max (PyData.depth (.int a)) (PyData.depthAll (r.map PyData.int)) = 0
        rw [ih.2]
        rfl
  refine .inl ⟨.list (ns.map PyData.int), .list [], .lst (SqL.of iv.2.2) (Dqs.dp (Dqs.ints ns)), Dq.dp (Dq.le ry), ?_, by rfl, ?_⟩
  · simp [SeqAt.shaped, PyData.canLay0, (lay ns).1, PyData.depth, (lay ns).2]
  · rw [e]
    exact qq _ H _ iv (Ex.refl _) q (.bl _)
theorem ds_pop2 {z : Int} (hi : Δ[i]? = some (some (.raw (.ref d)))) (hl : (ns ++ [z]).length ≤ 64) (q : nx (W.exact2 hk ns m k) (Δ.set j (some (.dat (.int z))))) :
    DS K (W.exact2 hk (ns ++ [z]) m k) Δ (tAsg (tBM0 K "list" rPop (tDGet (tVar i) (tC (.str "cells")))) (gName j)) nx rt bk ct := fun σ H D v iv cn => by
  obtain ⟨x, h1, h2⟩ := v.at_ i _ hi
  have h2 : x = .ref d := h2
  subst h2
  have hl2 : ns.length ≤ 64 := by
    rw [List.length_append] at hl
    omega
  refine ⟨.ref d, h1, d, .ref c, rfl, .inl ⟨_, Sum.inr "cells", .inl iv.2.1, rfl, rfl⟩, .inl ⟨rfl, _, SqL.of iv.2.2⟩, c, _, .int z, rfl, rfl, iv.2.2, ?_, ?_⟩
  · rw [List.map_append]
    simp
  · have e : ((ns ++ [z]).map V.int).dropLast = ns.map V.int := by
      rw [List.map_append]
      simp
    rw [e]
    obtain ⟨z1, z2⟩ := exact_put2 hk (ns' := ns) (m' := m) (k' := k) iv (H' := upd H c (.lst (ns.map V.int))) (fun a _ e2 => upd_ne e2) (by rw [upd_ne hk.ne]; exact iv.2.1) upd_same hl2
    refine cn.nx _ _ _ _ q z1 ?_ ?_
    · rw [z2]; exact Ex.refl _
    · rw [z2]; exact v.set (.int z)
theorem ds_push2 (hi : Δ[i]? = some (some (.raw (.ref d)))) (hl : ns.length < 64) (h : DE K (W.exact2 hk ns m k) Δ te fun e => ∃ z, e = .dat (.int z) ∧ nx (W.exact2 hk (ns ++ [z]) m k) Δ) :
    DS K (W.exact2 hk ns m k) Δ (tDrop (tBM K "list" rAppend (tDGet (tVar i) (tC (.str "cells"))) (tCons te tNil))) nx rt bk ct := fun σ H D v iv cn => by
  obtain ⟨x, h1, h2⟩ := v.at_ i _ hi
  have h2 : x = .ref d := h2
  subst h2
  refine ⟨.ref d, h1, d, .ref c, rfl, .inl ⟨_, Sum.inr "cells", .inl iv.2.1, rfl, rfl⟩, .inl ⟨rfl, _, SqL.of iv.2.2⟩, ?_⟩
  refine h σ H v iv _ fun y H1 e i1 x1 p1 r1 => ?_
  obtain ⟨z, rfl, q⟩ := p1
  cases r1
  refine ⟨c, _, .int z, rfl, rfl, i1.2.2, by rw [List.length_map]; exact sz_lt (by omega), ?_⟩
  have e : ns.map V.int ++ [V.int z] = (ns ++ [z]).map V.int := by rw [List.map_append]; rfl
  rw [e]
  obtain ⟨z1, z2⟩ := exact_put2 hk (ns' := ns ++ [z]) (m' := m) (k' := k) i1 (H' := upd H1 c (.lst ((ns ++ [z]).map V.int))) (fun a _ e2 => upd_ne e2) (by rw [upd_ne hk.ne]; exact i1.2.1) upd_same (by rw [List.length_append]; show ns.length + 1 ≤ 64; omega)
  refine cn.nx _ Δ σ _ q z1 ?_ ?_
  · rw [z2]; exact x1
  · rw [z2]; exact v.mono x1
end
/-- what _law_deck promises -/
def spDeck2 (K : PySem.W.Frag) : Sp := fun vs H Q _ => ∃ (a : Addr) (ns : List Int), vs = [.ref a] ∧ SqL K H a (ns.map V.int) ∧ ns.length ≤ 63 ∧
  ∀ (d c : Addr) (m k : Int) (cs : List Int) (H' : Hp), d ≠ c → H d = none → H c = none → Ex H H' → H' d = some (deckO2 c m k) → H' c = some (.lst (cs.map V.int)) → cs.length ≤ 64 → Q (.ref d) H'
def knDeck2 (c : Addr) : Kn := ⟨fun _ o => ∃ m k, o = deckO2 c m k, fun _ h => h⟩
theorem deck_new2 {W : Wd} {d c : Addr} (hd : W.hid d = false) (hc : W.hid c = false) (ne : d ≠ c) : HasDeck2 ((W.hide c knI).hide d (knDeck2 c)) d c where
  hd := hidAnd_self
  hc := hidAnd_of hidAnd_self
  ne := ne
  get H i := by
    obtain ⟨⟨_, o1, h1, ns, rfl, hl⟩, o2, h2, m, k, rfl⟩ := i
    exact ⟨ns, m, k, h2, del_le _ _ h1, hl⟩
  put H H' ns m k i off h1 h2 h3 := by
    obtain ⟨⟨i1, _⟩, _⟩ := i
    refine ⟨⟨?_, _, by rw [del_ne ne.symm]; exact h2, ns, rfl, h3⟩, _, h1, m, k, rfl⟩
    have e : del (del H' d) c = del (del H d) c := by
      funext a
      by_cases e1 : a = c
      · rw [e1, del_self, del_self]
      · rw [del_ne e1, del_ne e1]
        by_cases e2 : a = d
        · rw [e2, del_self, del_self]
        · rw [del_ne e2, del_ne e2, off a e2 e1]
    rw [e]
    exact i1
theorem ds_deck2 {K : PySem.W.Frag} {a : Addr} {ns : List Int} {Δ : DEnv} {nx bk ct : Wd → DEnv → Prop} {rt : Wd → DV → Prop} {i j : Nat} (hj : Δ[j]? = some (some (.raw (.ref a)))) (hl : ns.length ≤ 63)
    (k : ∀ W d c, HasDeck2 W d c → Wd.Le (Wd.script K a ns) W → nx W (Δ.set i (some (.raw (.ref d))))) : DS K (Wd.script K a ns) Δ (tAsg (tCall (spDeck2 K) [] E0 (tCons (tVar j) tNil)) (gName i)) nx rt bk ct := fun σ H D v iv cn => by
  obtain ⟨x, h1, h2⟩ := v.at_ j _ hj
  have h2 : x = .ref a := h2
  subst h2
  refine ⟨.ref a, h1, a, ns, rfl, iv, hl, fun d c m q cs H' ne hd hc e g1 g2 g3 => ?_⟩
  have no : ∀ b, (Wd.script K a ns).hid b = false := fun _ => rfl
  have hk := deck_new2 (no d) (no c) ne
  have view : ∀ U : Hp, (Wd.script K a ns).view U = U := fun U => by
    funext b
    show vw _ U b = U b
    rw [vw_of (no b)]
  have i1 : (Wd.script K a ns).inv (del (del H' d) c) := by
    have : Ex H (del (del H' d) c) := fun b o ho => by
      rw [del_ne (ne_of_none ho hc), del_ne (ne_of_none ho hd)]
      exact e b o ho
    exact (Wd.script K a ns).inv_ex iv this
  have i2 : (((Wd.script K a ns).hide c knI).hide d (knDeck2 c)).inv H' := ⟨⟨i1, _, by rw [del_ne ne.symm]; exact g2, cs, rfl, g3⟩, _, g1, m, q, rfl⟩
  have x2 : Ex ((Wd.script K a ns).view H) ((((Wd.script K a ns).hide c knI).hide d (knDeck2 c)).view H') := fun b o ho => by
    rw [view] at ho
    show vw (hidAnd (hidAnd (Wd.script K a ns).hid c) d) H' b = some o
    rw [vw_del, vw_del, vw_of (no b), del_ne (ne_of_none ho hc), del_ne (ne_of_none ho hd)]
    exact e b o ho
  refine cn.nx _ _ _ H' (k _ d c hk ?_) i2 x2 ((v.mono x2).set rfl)
  exact ((Wd.Le.refl _).hide (no c)).hide (by
    show hidAnd (Wd.script K a ns).hid c d = false
    exact hidAnd_ne (no d) ne)

section
variable {K : PySem.W.Frag} {W : Wd} {Δ : DEnv} {te ta tb tx ty : TE} {PL : List PyData → Prop} {P : DV → Prop} {nx bk ct : Wd → DEnv → Prop} {rt : Wd → DV → Prop}
theorem dn_revL (h : DE K W Δ te fun e => ∃ ds, e = .dat (.list ds) ∧ PL ds.reverse) : DN K W Δ (tRevL K te) PL := fun σ H v i Q q =>
  h σ H v i _ fun x H1 e i1 x1 p1 r1 => by
    obtain ⟨ds, rfl, k⟩ := p1
    cases r1 with
    | @lst a vs _ ha hv => exact ⟨a, vs, rfl, SqL.of (Wd.view_le _ _ ha), fun p hp => q _ p H1 _ i1 x1 hp hv.rev k⟩
/-- the last row of _law_deck: the dict and its list -/
theorem ret_deck2 {σ : L2.St} {H : Hp} {Q : VK} {m : Int} (g3 : σ[1]? = some (some (.int m)))
    (hc : ∀ d, H d = none → ∀ Q2 : VK, (∀ (cs : List Int) p H1, Ex (upd H d (.dK [])) H1 → H1 p = none → cs.length ≤ 64 → Q2 (.ref p) (upd H1 p (.lst (cs.map V.int)))) → te σ (upd H d (.dK [])) Q2)
    (q : ∀ (d c : Addr) (m k : Int) (cs : List Int) (H' : Hp), d ≠ c → H d = none → H c = none → Ex H H' → H' d = some (deckO2 c m k) → H' c = some (.lst (cs.map V.int)) → cs.length ≤ 64 → Q (.ref d) H') :
    tDisp [(tC (.str "cells"), te), (tC (.str "mixed"), tVar 1), (tC (.str "turn"), tC (.int 0))] σ H Q := by
  intro d hd
  refine hc d hd _ fun cs c H1 e1 hc1 hl => ?_
  have e0 := Ex.new (o := HO.dK []) hd
  have d1 : H1 d = some (.dK []) := e1 d _ upd_same
  have cd : c ≠ d := fun e => by
    rw [e, d1] at hc1
    cases hc1
  have e2 := Ex.new (o := HO.lst (cs.map V.int)) hc1
  have all := (e0.trans e1).trans e2
  refine ⟨.int m, g3, ?_, [(Sum.inr "cells", .ref c), (Sum.inr "mixed", .int m), (Sum.inr "turn", .int 0)], rfl, by show 3 ≤ 15; decide, ?_⟩
  · rw [upd_ne cd.symm]
    exact d1
  · refine q d c m 0 cs _ cd.symm hd (fresh_back (e0.trans e1) hc1) (all.mut hd) ?_ ?_ hl
    · rw [upd_same]
      rfl
    · rw [upd_ne cd, upd_same]
/-- x[i], x a list that stands apart -/
theorem opd_ixH {p : Addr} {ds : List PyData} {i : Int} {d : PyData} (kp : W.Keeps p (knL K ds)) (h : atI ds i = some d) (k : P (.dat d)) : OpD K W (rIx K) (.raw (.ref p)) (.dat (.int i)) P := fun x y H iv rx ry Q q => by
  cases ry
  have rx : x = .ref p := rx
  subst rx
  obtain ⟨o, ho, xs, rfl, hxs⟩ := kp H iv
  obtain ⟨v, h1, h2⟩ := hxs.atI h
  exact .inl ⟨p, xs, i, v, rfl, rfl, SqL.of ho, h1, q _ H _ iv (Ex.refl _) k h2⟩
/-- row[i], row[j] = a, b: the list apart -/
theorem ds_swap {i : Nat} {p : Addr} {ds : List PyData} (hi : Δ[i]? = some (some (.raw (.ref p))))
    (h : DE K (W.hide p (knL K ds)) Δ ta fun a => ∃ d1, a = .dat d1 ∧ DE K (W.hide p (knL K ds)) Δ tb fun b => ∃ d2, b = .dat d2 ∧ DE K (W.hide p (knL K ds)) Δ tx fun x => ∃ j1 : Nat, x = .dat (.int j1) ∧ j1 < ds.length ∧ DE K (W.hide p (knL K (ds.set j1 d1))) Δ ty fun y => ∃ j2 : Nat, y = .dat (.int j2) ∧ j2 < ds.length ∧ nx (W.hide p (knL K ((ds.set j1 d1).set j2 d2))) Δ) :
    DS K (W.hide p (knL K ds)) Δ (tAsg (tTup (tCons ta (tCons tb tNil))) (gTup K 2 (gCons (gSub (tVar i) tx rSetL) (gCons (gSub (tVar i) ty rSetL) gNil)))) nx rt bk ct := fun σ H D v iv c =>
  h σ H v iv _ fun u H1 a i1 x1 p1 r1 => by
    obtain ⟨d1, rfl, p1⟩ := p1
    refine p1 σ H1 (v.mono x1) i1 _ fun w H2 b i2 x2 p2 r2 => ?_
    obtain ⟨d2, rfl, p2⟩ := p2
    refine ⟨sz_of (show 2 ≤ 100000 by decide), fun t ht => ?_⟩
    have i3 := Wd.inv_new (o := .tup [u, w]) i2 ht
    have x3 := Wd.view_ex (W := W.hide p (knL K ds)) (Ex.new (o := .tup [u, w]) ht)
    refine ⟨t, [u, w], rfl, SqT.of upd_same, rfl, u, [w], rfl, ?_⟩
    obtain ⟨z, hz, rz⟩ := v.at_ i _ hi
    have rz : z = .ref p := rz
    subst rz
    refine ⟨.ref p, hz, p2 σ _ (v.mono ((x1.trans x2).trans x3)) i3 _ fun y4 H4 e4 i4 x4 p4 r4 => ?_⟩
    obtain ⟨j1, rfl, hj1, p4⟩ := p4
    cases r4
    obtain ⟨o, ho, xs, rfl, hxs⟩ := Wd.hide_at i4
    have hl := hxs.length
    have x14 := ((x1.trans x2).trans x3).trans x4
    obtain ⟨z1, z2⟩ := Wd.hide_put (ψ := knL K (ds.set j1 d1)) (u := .lst (xs.set j1 u)) i4 ⟨_, rfl, hxs.set (Dq.mono ((x2.trans x3).trans x4) r1)⟩
    refine ⟨p, xs, (j1 : Int), j1, rfl, rfl, ho, ixN_nat (by omega), w, [], rfl, .ref p, hz, ?_⟩
    have v5 : EnvOk K ((W.hide p (knL K (ds.set j1 d1))).view (upd H4 p (.lst (xs.set j1 u)))) σ Δ := by
      rw [z2]
      exact v.mono x14
    refine p4 σ _ v5 z1 _ fun y5 H5 e5 i5 x5 p5 r5 => ?_
    obtain ⟨j2, rfl, hj2, hn⟩ := p5
    cases r5
    rw [z2] at x5
    obtain ⟨o, ho5, xs5, rfl, hxs5⟩ := Wd.hide_at i5
    have hl5 := hxs5.length
    rw [List.length_set] at hl5
    have r2' : Dq K ((W.hide p (knL K (ds.set j1 d1))).view H5) w d2 := Dq.mono ((x3.trans x4).trans x5) r2
    obtain ⟨y1, y2⟩ := Wd.hide_put (ψ := knL K ((ds.set j1 d1).set j2 d2)) (u := .lst (xs5.set j2 w)) i5 ⟨_, rfl, hxs5.set r2'⟩
    refine ⟨p, xs5, (j2 : Int), j2, rfl, rfl, ho5, ixN_nat (by omega), rfl, ?_⟩
    refine c.nx _ Δ σ _ hn y1 (by rw [y2]; exact x14.trans x5) ?_
    rw [y2]
    exact v.mono (x14.trans x5)
end
end Ka

/-! Kc2: dicts by tuples: {}, list(d) -/
namespace Ka
open PySem PySem.Spec PyProof.Rows L2 Evl Kd
/-- {} , to be a dict by tuples -/
def tDicNew (P : Program) (w : World) : TE := fun σ H Q => ∀ D, H D = none → Q (.ref D) (upd H D (DicO P w D []))
theorem pe_dicNew {X : Cx} {P : Program} {w : World} {pos : Pos} (e1 : X.prog = P) (e2 : X.w = w) : PE X (.Dict [] [] pos) (tDicNew P w) := by
  subst e1 e2
  exact ⟨fun pins s σ H Q I h =>
    wpAny_Dict_empty ⟨.ref s.heap.objs.size, _, I.laid (a := s.heap.objs.size) (o := DicO X.prog X.w s.heap.objs.size []) (t' := s.toks) (fun _ _ q => Heap.get?_push_of_some _ q) (Nat.le_refl _)
      (dicO_ok (Nat.zero_le _) (by have := I.big; simpa using Nat.ne_of_gt this) .nil (Heap.get?_push_size _ rfl) ⟨rfl, rfl, rfl⟩ rfl rfl .nil), rfl, h _ (I.hok.fresh (Nat.le_refl _))⟩⟩
section
variable {K : PySem.W.Frag} {W : Wd} {Δ : DEnv} {P : Program} {w : World} {nx bk ct : Wd → DEnv → Prop} {rt : Wd → DV → Prop} {PX : DV → Prop}
theorem ds_dicNew {i : Nat} (k : ∀ p, W.hid p = false → nx (W.hide p (knDic P w K p [])) (Δ.set i (some (.raw (.ref p))))) : DS K W Δ (tAsg (tDicNew P w) (gName i)) nx rt bk ct := fun σ H D v iv c => by
  intro p hp
  obtain ⟨n1, n2⟩ := Wd.hide_new (φ := knDic P w K p []) (o := DicO P w p []) iv hp ⟨[], rfl, .nil⟩
  refine c.nx _ _ _ _ (k p (Wd.hid_none iv hp)) n1 (by rw [n2]; exact Ex.refl _) ?_
  rw [n2]
  exact v.set rfl
theorem vrefs : ∀ bs : List Addr, Vals (bs.map V.ref) (bs.map Value.ref)
  | [] => .nil
  | _ :: bs => .cons rfl (vrefs bs)
/-- list(d): the keys in their order -/
def rLstDic (P : Program) (w : World) : List V → Hp → VK → Prop := fun xs H Q => ∃ d ents, xs = [V.ref d] ∧ H d = some (DicO P w d ents) ∧ ∀ p, H p = none → Q (.ref p) (upd H p (.lst (ents.map fun x => V.ref x.2.1)))
theorem cr_lstDic {X : Cx} (hc : X.calm = true) (e1 : X.prog = P) (e2 : X.w = w) : CallR X (.type "list") (rLstDic P w) := by
  subst e1 e2
  intro pins s σ H xs us Q I r h
  obtain ⟨d, ents, rfl, hd, q⟩ := h
  obtain ⟨u, rfl, rx⟩ := r.one
  cases rx
  obtain ⟨⟨z, hs⟩, ks, pr, o, es, ep, ho, hx, hdt, he, hn⟩ := (I.hok d _ hd).1
  have l1 : es.size = ks.length := size_of_entries he
  have l2 : ents.length = ks.length := Paired.length pr
  refine PySem.W.kdl_call (kdl_raw hs hx hdt) (I.ok.hd hc) ho (by omega) fun h' tk acc' c' kp e it => ?_
  have ea : acc'.toList = ks.map fun x => Value.ref x.2.1 := by
    have hl : acc'.toList.length = ks.length := by rw [Array.length_toList, it.1]; exact l1
    apply List.ext_getElem?
    intro j
    rw [List.getElem?_map]
    cases hj : acc'.toList[j]? with
    | none =>
      have h1 := List.getElem?_eq_none_iff.mp hj
      rw [List.getElem?_eq_none (by omega)]
      all_goals rfl
    | some v =>
      obtain ⟨en, hen, hv⟩ := it.2 j v (by rw [← Array.getElem?_toList]; exact hj)
      have qe := entry_at he j
      rw [hen] at qe
      cases hb : ks[j]? with
      | none =>
        rw [hb] at qe
        exact nomatch (show some en = none from qe)
      | some b =>
        rw [hb] at qe
        have e2 : en = entryOfKey (nestedKind X.prog X.w) b := Option.some.inj qe
        rw [hv, e2]
        all_goals rfl
  have eb : acc'.toList = (ks.map fun x => x.2.1).map Value.ref := by rw [ea, List.map_map]; all_goals rfl
  have rv : Vals ((ks.map fun x => x.2.1).map V.ref) acc'.toList := by rw [eb]; exact vrefs _
  have hz : ((ks.map fun x => x.2.1).map V.ref).length ≤ sizeLine := by rw [List.length_map, List.length_map]; omega
  have ek : ∀ {xs : List Ent} {ys : List (NestedKey × Addr × Value)}, Paired EntRel xs ys → (xs.map fun x => V.ref x.2.1) = (ys.map fun x => x.2.1).map V.ref := fun {xs ys} pr => by
    induction pr with
    | nil => rfl
    | cons h _ ih => rw [List.map_cons, List.map_cons, List.map_cons, ih, h.2.1]
  rw [ek pr] at q
  refine ⟨.ref s.heap.objs.size, _, I.laid (t' := tk) (o := .lst ((ks.map fun x => x.2.1).map V.ref)) kp (Nat.le_refl _) ?_, rfl, q _ (I.hok.fresh (Nat.le_refl _))⟩
  exact ⟨hz, acc'.toList, c', rv, by rw [Array.toArray_toList]; exact e⟩
theorem dic_keys {U : Hp} : ∀ {xs : List Ent} {m : List (PyData × PyData)}, DicIs K U xs m → Dqs K U (xs.map fun x => V.ref x.2.1) (m.map (·.1))
  | _, _, .nil => .nil
  | _, _, .cons ⟨_, h2, _, _⟩ t => .cons h2 (dic_keys t)
theorem cal_lstDic {p : Addr} {m : List (PyData × PyData)} (kp : W.Keeps p (knDic P w K p m)) (k : PX (.dat (.list (m.map (·.1))))) : CalD K W (rLstDic P w) [.raw (.ref p)] PX := fun xs H iv r Q q => by
  obtain ⟨x, rfl, rx⟩ := reps1 r
  have rx : x = .ref p := rx
  subst rx
  obtain ⟨o, ho, xs, rfl, hxs⟩ := kp H iv
  exact ⟨p, xs, rfl, ho, fun l hl => q _ _ _ (Wd.inv_new iv hl) (Wd.view_ex (Ex.new hl)) k (Dq.newL iv hl (dic_keys hxs))⟩
end
end Ka

/-! sorted(a set of tuples) -/
namespace Ks
open PySem PySem.W PyProof.Rows
theorem perm_of_map {α β : Type} (f : α → β) : ∀ {l m : List β}, l.Perm m → ∀ l2 : List α, m = l2.map f → ∃ l3 : List α, l3.Perm l2 ∧ l = l3.map f := by
  intro l m h
  induction h with
  | nil =>
    intro l2 e
    have : l2 = [] := by simpa using e.symm
    subst this
    exact ⟨[], .nil, rfl⟩
  | cons x h ih =>
    intro l2 e
    cases l2 with
    | nil => cases e
    | cons a l2 =>
      rw [List.map_cons] at e
      injection e with e1 e2
      obtain ⟨l3, p, q⟩ := ih l2 e2
      exact ⟨a :: l3, p.cons a, by rw [List.map_cons, e1, q]⟩
  | swap x y l =>
    intro l2 e
    match l2, e with
    | a :: b :: l2, e =>
      simp only [List.map_cons, List.cons.injEq] at e
      obtain ⟨e1, e2, e3⟩ := e
      exact ⟨b :: a :: l2, List.Perm.swap _ _ _, by simp [e1, e2, e3]⟩
  | trans h1 h2 ih1 ih2 =>
    intro l2 e
    obtain ⟨l3, p, q⟩ := ih2 l2 e
    obtain ⟨l4, p', q'⟩ := ih1 l3 q
    exact ⟨l4, p'.trans p, q'⟩
section
variable {prog : Program} {w : World} {A : Around} {E : Value → Shared → Prop} {s : Shared} {a : Addr} {L : List (Addr × NestedKey)} {es : Array (Int × Value)} {ep : Nat} {t : SetTable}
theorem sorted_setK (R : SN w s.heap a L es ep t) (hh : A.handled = none) (hz : L.length < 1000) {R' : Value → PyData → Prop} {Q : Value → Shared → Prop}
    (h : ∀ L' : List (Addr × NestedKey), L'.Perm L → ∃ ds : List PyData, EachIs (fun v d => ∃ as, Reads s.heap v d as) (L'.map fun p => Value.ref p.1) ds ∧ EachIs R' (L'.map fun p => Value.ref p.1) ds ∧ AllAlike ds ∧ Sortable ds ∧ (∀ d ∈ ds, A.units + 2 + d.depth < cLine) ∧
      ∀ (s' : Shared) (p : Addr) (out : List Value) (c : Nat), (∀ b o, s.heap.get? b = some o → s'.heap.get? b = some o) → s'.gens = s.gens → s'.os = s.os → s.heap.objs.size ≤ p → s'.heap.get? p = some (seqObj "list" out.toArray c) → EachIs R' out (ds.mergeSort (dataLe false id)) → Q (.ref p) s') :
    wpAny (model prog w) A (call (.builtin "sorted") [.ref a]) Q E s := by
  obtain ⟨o, ho, hex, hd⟩ := R.ob
  have hsz := R.size
  refine call_function_entry_kw kind_sorted plain_sorted entry_sorted (args_sorted1 _) ?_
  unfold Builtin.«sorted»
  refine wpAny_bind (m := checkCount "sorted" 1 1 _) (wpAny_pure ?_)
  refine wpAny_bind (L2.collect_set (A := A.in1) hh ⟨o, ho, hex.1, hd⟩ R.fits (by unfold scanBound; omega) R.tab.ris R.led fun s1 vs k1 hz1 g1 o1 pm => ?_)
  have hes : es.toList.map (·.2) = L.map fun q => Value.ref q.1 := by
    rw [R.rows]
    unfold rowsK
    rw [List.map_map] <;> rfl
  rw [hes] at pm
  obtain ⟨L', pL, e⟩ := perm_of_map (fun q : Addr × NestedKey => Value.ref q.1) pm L rfl
  subst e
  obtain ⟨ds, er, eR, hal, hk, hu, hQ⟩ := h L' pL
  have hvl : (L'.map fun q => Value.ref q.1).length ≤ sizeLine := by rw [List.length_map, pL.length_eq, sizeLine_eq]; omega
  refine wpAny_bind (wpAny_newList ?_ hvl)
  have hoL : (s1.heap.push (seqObj "list" (L'.map fun q => Value.ref q.1).toArray 0)).get? s1.heap.objs.size = some (seqObj "list" (L'.map fun q => Value.ref q.1).toArray 0) := Heap.get?_push_size _ rfl
  have k2 : ∀ b u, s.heap.get? b = some u → (sortingHeap (s1.heap.push (seqObj "list" (L'.map fun q => Value.ref q.1).toArray 0)) s1.heap.objs.size (L'.map fun q => Value.ref q.1)).get? b = some u := fun b u e => by
    have q := k1 b u e
    have hlt := Heap.lt_size q
    have z := Heap.get?_push_of_some (seqObj "list" (L'.map fun q => Value.ref q.1).toArray 0) q
    unfold sortingHeap
    have hlt2 : b < (s1.heap.push (seqObj "list" (L'.map fun q => Value.ref q.1).toArray 0)).objs.size := Heap.lt_size z
    refine Heap.get?_push_of_some _ (Heap.get?_push_of_some _ ?_)
    rw [Heap.get?_update_ne _ _ _ _ (Nat.ne_of_lt hlt)]
    exact z
  have er' : EachIs (fun v d => ∃ as, Reads (sortingHeap (s1.heap.push (seqObj "list" (L'.map fun q => Value.ref q.1).toArray 0)) s1.heap.objs.size (L'.map fun q => Value.ref q.1)) v d as) (L'.map fun q => Value.ref q.1) ds := er.mono fun _ _ ⟨as, r⟩ => ⟨as, PyProof.Rows.Reads.keeps k2 r⟩
  have S := SortsAt.data (prog := prog) (w := w) (A := A.in1.in1) (s := { s1 with heap := sortingHeap (s1.heap.push (seqObj "list" (L'.map fun q => Value.ref q.1).toArray 0)) s1.heap.objs.size (L'.map fun q => Value.ref q.1) }) er' hal hk hu
  refine wpAny_bind (wpAny_holding (wpAny_call_entry_kw slot_list_sort ⟨_, hoL, rfl⟩ entry_list_sort ?_ (args_list_sort _)))
  show wpAny (model prog w) A.in1.in1 (Builtin.«list.sort» ⟨[.ref s1.heap.objs.size], []⟩) _ _ { s1 with heap := s1.heap.push (seqObj "list" (L'.map fun q => Value.ref q.1).toArray 0) }
  refine list_sort_vals (s := { s1 with heap := s1.heap.push (seqObj "list" (L'.map fun q => Value.ref q.1).toArray 0) }) hoL S hvl ?_
  refine ⟨_, rfl, wpAny_pure ⟨_, rfl, ?_⟩⟩
  obtain ⟨c, hc⟩ := sortedHeap_at (vs := L'.map fun q => Value.ref q.1) (out := (sortVals (dataKind (sortingHeap (s1.heap.push (seqObj "list" (L'.map fun q => Value.ref q.1).toArray 0)) s1.heap.objs.size (L'.map fun q => Value.ref q.1)) ds) false (L'.map fun q => Value.ref q.1) (L'.map fun q => Value.ref q.1)).toArray) hoL
  refine hQ _ s1.heap.objs.size _ c (fun b u e => ?_) g1 o1 hz1 hc ?_
  · have q := k1 b u e
    have hlt := Heap.lt_size q
    show (sortedHeap (s1.heap.push (seqObj "list" (L'.map fun q => Value.ref q.1).toArray 0)) s1.heap.objs.size (L'.map fun q => Value.ref q.1) _).get? b = some u
    rw [sortedHeap_old (Nat.ne_of_lt hlt) (by rw [size_push']; exact Nat.lt_succ_of_lt hlt)]
    exact Heap.get?_push_of_some _ q
  · have := sortVals_data (h' := sortingHeap (s1.heap.push (seqObj "list" (L'.map fun q => Value.ref q.1).toArray 0)) s1.heap.objs.size (L'.map fun q => Value.ref q.1)) (enc := id) false eR er' (by simpa using hal)
    simpa using this
end
end Ks
namespace Ka
open PySem PySem.Spec PyProof.Rows L2 Evl
section
variable {X : Cx} {pins : List (Addr × Obj)} {σ : L2.St} {H : Hp} {s : Shared}
theorem nodup_le {α : Type} [DecidableEq α] : ∀ {l m : List α}, l.Nodup → (∀ x ∈ l, x ∈ m) → l.length ≤ m.length
  | [], _, _, _ => Nat.zero_le _
  | x :: l, m, hn, h => by
    rw [List.nodup_cons] at hn
    have hx := h x (by simp)
    have := nodup_le (l := l) (m := m.erase x) hn.2 fun y hy => (List.mem_erase_of_ne (fun e => hn.1 (by rw [← e]; exact hy))).mpr (h y (List.mem_cons_of_mem _ hy))
    rw [List.length_erase_of_mem hx] at this
    have hp : 0 < m.length := List.length_pos_of_mem hx
    rw [List.length_cons]
    omega
/-- what the members stand for, in this order -/
theorem says_list {K : PySem.W.Frag} {U : Hp} {ds : List PyData} : ∀ {L : List (Addr × NestedKey)}, (∀ p ∈ L, ∃ d ∈ ds, p.2 = kd d ∧ Dq K U (.ref p.1) d) → ∃ es, es.map kd = L.map (·.2) ∧ Dqs K U (L.map fun p => V.ref p.1) es ∧ ∀ e ∈ es, e ∈ ds
  | [], _ => ⟨[], rfl, .nil, nofun⟩
  | p :: L, h => by
    obtain ⟨d, m, e, r⟩ := h p (by simp)
    obtain ⟨es, e1, e2, e3⟩ := says_list fun q hq => h q (List.mem_cons_of_mem _ hq)
    exact ⟨d :: es, by rw [List.map_cons, List.map_cons, e1, e], .cons r e2, fun x hx => by
      rcases List.mem_cons.mp hx with rfl | hx
      · exact m
      · exact e3 x hx⟩
theorem refs_vals : ∀ L : List (Addr × NestedKey), Vals (L.map fun p => V.ref p.1) (L.map fun p => Value.ref p.1)
  | [] => .nil
  | _ :: L => .cons rfl (refs_vals L)
/-- sorted(s), s a set of tuples -/
def rSortedKs (w : World) (K : PySem.W.Frag) : List V → Hp → VK → Prop := fun vs H Q => ∃ (a : Addr) (L : List (Addr × NestedKey)) (ds : List PyData) (U : Hp), vs = [V.ref a] ∧ H a = some (SetKO w a L) ∧ Ex U H ∧ SetSays K U ds L ∧ ds.length < 1000 ∧ PySem.W.AllAlike ds ∧ PySem.W.Sortable ds ∧ (∀ d ∈ ds, d.depth ≤ 60) ∧
  ∀ (es : List PyData) (ys : List V) (p : Addr), (es.map kd).Nodup → (∀ e ∈ es, e ∈ ds) → (∀ d ∈ ds, kd d ∈ es.map kd) → Dqs K U ys (es.mergeSort (PySem.W.dataLe false id)) → H p = none → Q (.ref p) (upd H p (.lst ys))
theorem cr_sortedKs (hc : X.calm = true) (hu : X.A.units + 64 < cLine) : CallR X (.builtin "sorted") (rSortedKs X.w X.K) := by
  intro pins s σ H vs us Q I r h
  obtain ⟨a, L, ds, U, rfl, ha, hU, hs, hz, al, so, dep, q⟩ := h
  rw [Vals.ref1 r]
  obtain ⟨es, ep, t, R⟩ := (I.hok a _ ha).1
  have hL : L.length < 1000 := by
    have := nodup_le (m := ds.map kd) R.nd fun k m => (says_mem hs k).mp m
    rw [List.length_map, List.length_map] at this
    omega
  refine Ks.sorted_setK R (I.ok.hd hc) hL (R' := fun u d => ∃ v, RelV v u ∧ Dq X.K U v d) fun L' pL => ?_
  obtain ⟨fs, e1, e2, e3⟩ := says_list (L := L') fun p m => hs.1 p (pL.mem_iff.mp m)
  have rv := refs_vals L'
  obtain ⟨as', rs⟩ := Dp.readsAll I fs _ _ (e2.mono hU).dp rv
  refine ⟨fs, each_reads rs, each_three rv e2, fun d hd d' hd' => al d (e3 d hd) d' (e3 d' hd'), ?_, fun d hd => by have := dep d (e3 d hd); omega, fun s' p out c k g o hp hg e => ?_⟩
  · rcases so with so | so
    · exact .inl fun d hd => so d (e3 d hd)
    · exact .inr fun d hd => so d (e3 d hd)
  · obtain ⟨ys, ry, hy⟩ := three_back e
    have hn : H p = none := I.hok.fresh hp
    have hlen : ys.length ≤ sizeLine := by
      have h1 := hy.length
      rw [List.length_mergeSort] at h1
      have h2 := congrArg List.length e1
      rw [List.length_map, List.length_map, pL.length_eq] at h2
      rw [h1, h2, sizeLine_eq]
      omega
    have J : Inv X pins σ (upd H p (.lst ys)) { s with heap := s'.heap, gens := s'.gens, drawn := s'.drawn, toks := s'.toks } :=
      I.call (ch := []) (Un.laid k hp hn) (I.hok.laid k hp ⟨hlen, out, c, ry, hg⟩) (by rw [g]; exact I.bare) (fun _ z => nomatch z)
    have es : s' = { s with heap := s'.heap, gens := s'.gens, drawn := s'.drawn, toks := s'.toks } := by
      cases s'
      cases s
      cases o
      rfl
    rw [es]
    refine ⟨.ref p, _, J, rfl, q fs ys p ?_ e3 (fun d hd => ?_) hy hn⟩
    · rw [e1]
      exact (pL.map (·.2)).nodup_iff.mpr R.nd
    · rw [e1]
      exact (pL.map (·.2)).mem_iff.mpr ((says_mem hs _).mpr (List.mem_map.mpr ⟨d, hd, rfl⟩))
end
section
variable {X : Cx} {K : PySem.W.Frag} {w : World} {W : Wd} {Δ : DEnv} {P : DV → Prop}
def rSortedZ (w : World) (K : PySem.W.Frag) : List V → Hp → VK → Prop := fun vs H Q => rSortedY w K vs H Q ∨ rSortedKs w K vs H Q
theorem cr_sortedZ (e : X.K = K) (e2 : X.w = w) (hc : X.calm = true) (hu : X.A.units + 64 < cLine) : CallR X (.builtin "sorted") (rSortedZ w K) := by
  subst e e2
  exact (cr_sortedY rfl rfl hc hu).or (cr_sortedKs hc hu)
theorem cal_sortedZL {ds : List PyData} (h1 : PySem.W.AllAlike ds) (h2 : PySem.W.Sortable ds) (h3 : ∀ d ∈ ds, d.depth ≤ 60) (k : P (.dat (.list (ds.mergeSort (PySem.W.dataLe false id))))) : CalD K W (rSortedZ w K) [.dat (.list ds)] P := fun xs H iv r Q q => .inl (cal_sortedYL h1 h2 h3 k xs H iv r Q q)
theorem cal_sortedZS {S : Int → Bool} {n : Nat} (hn : n < 64) (k : ∀ ns : List Int, ns.Pairwise (· < ·) → (∀ k : Int, k ∈ ns ↔ S k = true) → ns.length = n → P (.dat (.list (ns.map PyData.int)))) : CalD K W (rSortedZ w K) [.obj fun q => SetO w q S n] P := fun xs H iv r Q q => .inl (cal_sortedYS hn k xs H iv r Q q)
theorem cal_sortedZT {ds : List PyData} (h1 : PySem.W.AllAlike ds) (h2 : PySem.W.Sortable ds) (h3 : ∀ d ∈ ds, d.depth ≤ 60) (k : P (.dat (.list (ds.mergeSort (PySem.W.dataLe false id))))) : CalD K W (rSortedZ w K) [.dat (.tuple ds)] P := fun xs H iv r Q q => .inl (cal_sortedYT h1 h2 h3 k xs H iv r Q q)
theorem cal_sortedZK {ds : List PyData} (hz : ds.length < 1000) (h1 : PySem.W.AllAlike ds) (h2 : PySem.W.Sortable ds) (h3 : ∀ d ∈ ds, d.depth ≤ 60) (k : ∀ es : List PyData, (es.map kd).Nodup → (∀ e ∈ es, e ∈ ds) → (∀ d ∈ ds, kd d ∈ es.map kd) → P (.dat (.list (es.mergeSort (PySem.W.dataLe false id))))) : CalD K W (rSortedZ w K) [setD w ds] P := fun xs H iv r Q q => by
  obtain ⟨x, rfl, rx⟩ := reps1 r
  obtain ⟨a, L, rfl, ha, hs, ht⟩ := rx
  refine .inr ⟨a, L, ds, W.view H, rfl, Wd.view_le _ _ ha, Wd.view_le, hs, hz, h1, h2, h3, fun es ys p n1 n2 n3 hy hp => q _ _ _ (Wd.inv_new iv hp) (Wd.view_ex (Ex.new hp)) (k es n1 n2 n3) (Dq.newL iv hp hy)⟩
end
end Ka

/-! zip of a list and a tuple: the library's way with two tuples, the first one a list -/
namespace Kz
open PySem
open PySem.Sem (wp)
section
variable {w : World} {prog : Program} {A : Around} {s : Shared} {E : Value → Shared → Prop}
end

section
variable {w : World} {prog : Program} {A : Around} {s : Shared} {E : Value → Shared → Prop}

end
end Kz
namespace Kz
open PySem PySem.Spec PyProof.Rows L2
end Kz
namespace Ka
open PySem PySem.Spec PyProof.Rows L2 Evl
section
variable {X : Cx} {K : PySem.W.Frag} {w : World} {W : Wd} {Δ : DEnv} {P : DV → Prop}
end
end Ka

/-! tuple(range(i, j, -1)) -/
namespace Ks
open PySem PySem.Spec PyProof.Rows L2
section
variable {X : Cx}
end
end Ks
namespace Ka
open PySem PySem.Spec PyProof.Rows L2 Evl
section
variable {K : PySem.W.Frag} {w : World} {W : Wd} {Δ : DEnv} {P : DV → Prop}
end
end Ka

/-! s & t and s - t, sets of keys of any depth -/
namespace Ks
open PySem PySem.Spec PyProof.Rows L2
section
variable {P : Program} {w : World} {A : Around} {E : Value → Shared → Prop} {s : Shared} {a : Addr} {L : List (Addr × NestedKey)} {es : Array (Int × Value)} {ep : Nat} {t : SetTable}
/-- what has been gathered of the members so far: those whose key is, or is not, one of the others -/
def Part (w : World) (h0 : Heap) (s1 : Shared) (r : Addr) (La : List (Addr × NestedKey)) (b : Bool) (Ld : List (Addr × NestedKey)) (s' : Shared) : Prop :=
  (∀ c o, c ≠ r → h0.get? c = some o → s'.heap.get? c = some o) ∧ s'.gens = s1.gens ∧ s'.os = s1.os ∧ s1.heap.objs.size ≤ s'.heap.objs.size ∧
    ∃ Lr es ep t, SN w s'.heap r Lr es ep t ∧ (∀ q ∈ Lr, q ∈ Ld ∧ decide (q.2 ∈ La.map (·.2)) = b) ∧ (∀ q ∈ Ld, decide (q.2 ∈ La.map (·.2)) = b → q.2 ∈ Lr.map (·.2)) ∧ Lr.length ≤ Ld.length
end
section
variable {P : Program} {w : World} {A : Around} {E : Value → Shared → Prop} {s : Shared} {a b : Addr} {L1 L2 : List (Addr × NestedKey)} {es1 es2 : Array (Int × Value)} {ep1 ep2 : Nat} {t1 t2 : SetTable}
theorem Part.up {h0 : Heap} {s1 s' : Shared} {r : Addr} {La Ld : List (Addr × NestedKey)} {b : Bool} (h : Part w h0 s1 r La b Ld s') (e0 : ∃ o es ep t, h0.get? r = some o ∧ o.data = .set es ep t) {q : Addr × NestedKey} (hq : KeyAt h0 q.2 q.1) : KeyAt s'.heap q.2 q.1 := by
  refine ⟨NestedIs.at (fun c o vs n e ed => ?_) _ _ hq.1, hq.2⟩
  refine h.1 c o (fun z => ?_) e
  obtain ⟨o2, es2, ep2, t2, e2, d2⟩ := e0
  rw [z, e2] at e
  rw [← Option.some.inj e, d2] at ed
  cases ed
end
end Ks

/-! set(x) & set(y), set(x) - set(y) of tuples -/
namespace Ka
open PySem PySem.Spec PyProof.Rows L2 Evl
section
variable {X : Cx} {pins : List (Addr × Obj)} {σ : L2.St} {H : Hp} {s : Shared}
end
section
variable {X : Cx} {K : PySem.W.Frag} {w : World} {W : Wd} {Δ : DEnv} {P : DV → Prop} {ta tb : TE}
end
end Ka

/-! range(i, j, -1) gone through, enumerate(list), list * int -/
namespace Ka
open PySem PySem.Spec PyProof.Rows L2 Evl
section
variable {X : Cx} {K : PySem.W.Frag} {w : World} {W : Wd} {Δ : DEnv} {P : DV → Prop} {ta : TA}
end
end Ka

/-! s | t, sets of keys of any depth -/
namespace Ks
open PySem PySem.Spec PyProof.Rows L2
section
variable {P : Program} {w : World} {A : Around} {E : Value → Shared → Prop} {s : Shared} {a : Addr} {L : List (Addr × NestedKey)} {es : Array (Int × Value)} {ep : Nat} {t : SetTable}
theorem Tb.as {t t' : SetTable} {hs : List Int} (T : Tb t hs) (e1 : t'.mask = t.mask) (e2 : t'.place = t.place) (e3 : t'.dummies = t.dummies) : Tb t' hs := by
  refine ⟨by rw [e2]; exact T.ris, by rw [e3]; exact T.dum, by rw [e2]; exact T.len, by rw [e1]; exact T.msk, by rw [e1, e2]; exact T.low, ?_⟩
  rw [e1, e2]
  exact T.found
end
end Ks

/-! a set some members of which have been taken out: how many are left -/
namespace Ks
open PySem PySem.Spec PyProof.Rows L2
structure WN (w : World) (h : Heap) (a : Addr) (L : List (Addr × NestedKey)) (es : Array (Int × Value)) (ep : Nat) (t : SetTable) : Prop where
  ob : ∃ o, h.get? a = some o ∧ o.ExactSet ∧ o.data = .set es ep t
  rows : es.toList = rowsK w L
  len : t.place.size = L.length
  msk : Mk t.mask
  few : t.place.size + t.dummies.size ≤ t.mask
section
variable {P : Program} {w : World} {A : Around} {E : Value → Shared → Prop} {s : Shared} {a : Addr} {L : List (Addr × NestedKey)} {es : Array (Int × Value)} {ep : Nat} {t : SetTable}
theorem WN.size {h : Heap} (R : WN w h a L es ep t) : es.size = L.length := rowsK_size R.rows
end
end Ks

/-! sorted(set(x) | set(y)), sorted(set(x) & set(y)), len(set(x) - set(y)) -/
namespace Ka
open PySem PySem.Spec PyProof.Rows L2 Evl
section
variable {X : Cx} {pins : List (Addr × Obj)} {σ : L2.St} {H : Hp} {s : Shared}
end
section
variable {X : Cx} {K : PySem.W.Frag} {w : World} {W : Wd} {Δ : DEnv} {P : DV → Prop} {ta tb : TE}
/-- the two kinds, as the sorting asks for -/
structure Sorts (ds es : List PyData) : Prop where
  al : PySem.W.AllAlike (ds ++ es)
  so : PySem.W.Sortable (ds ++ es)
  dep : ∀ d ∈ ds ++ es, d.depth ≤ 60
theorem Sorts.part {ds es fs : List PyData} (h : Sorts ds es) (hf : ∀ f ∈ fs, f ∈ ds ∨ f ∈ es) : PySem.W.AllAlike fs ∧ PySem.W.Sortable fs ∧ ∀ d ∈ fs, d.depth ≤ 60 := by
  have hm : ∀ f ∈ fs, f ∈ ds ++ es := fun f m => List.mem_append.mpr (hf f m)
  refine ⟨fun d hd d' hd' => h.al d (hm d hd) d' (hm d' hd'), ?_, fun d hd => h.dep d (hm d hd)⟩
  rcases h.so with so | so
  · exact .inl fun d hd => so d (hm d hd)
  · exact .inr fun d hd => so d (hm d hd)
end
end Ka

/-! sorting tuples of which some may be empty -/
namespace Ks
open PySem PySem.W PySem.Calls PySem.SeqAt PyProof.Rows
section
variable {prog : Program} {w : World} {A : Around} {E : Value → Shared → Prop} {s : Shared}
end
end Ks
namespace Ka
open PySem PySem.Spec PyProof.Rows L2 Evl
section
variable {X : Cx} {K : PySem.W.Frag} {w : World} {W : Wd} {Δ : DEnv} {P : DV → Prop}
end
end Ka

namespace Ka
open PySem PySem.Spec PyProof.Rows L2 Evl
section
variable {K : PySem.W.Frag} {W : Wd} {P : DV → Prop}
end
end Ka

/-! Kce: tuple(permutations(range(..))) -/
namespace Kp
open PySem PySem.Spec PyProof.Rows
open Sem (wp)
theorem mro_pm : mroOf (.type "itertools.permutations") = pure [.type "itertools.permutations", .type "object"] := by rw [mroOf_type]; kernel_rfl
theorem lookup_pm_new : typeLookup (.type "itertools.permutations") "__new__" = pure (some (.builtin "itertools.permutations.__new__")) := by rw [typeLookup_type, builtinLookup_eq_fast]; kernel_rfl
theorem slot_pm_init : Slot "itertools.permutations" "__init__" "object.__init__" :=
  .of (owner := "object") (n := "__init__") (by rw [typeLookup_type, builtinLookup_eq_fast]; kernel_rfl) (by decide +kernel) (by decide +kernel) (by decide +kernel)
    (by first | exact .inl (by decide +kernel) | exact .inr (by decide +kernel)) (by rw [isSubtype_type]; kernel_rfl)
theorem sub_pm : isSubtype (.type "itertools.permutations") (.type "itertools.permutations") = pure true := by rw [isSubtype_type]; kernel_rfl
theorem called_pm : TypeCalled "itertools.permutations" "itertools.permutations.__new__" "object.__init__" :=
  ⟨by decide +kernel, by decide +kernel, ⟨_, _, mro_pm⟩, madeBy_type mro_pm lookup_pm_new (by decide +kernel), by decide +kernel, sub_pm, slot_pm_init⟩
theorem typeCall_pm (a : Value) : checkTypeCall "itertools.permutations" ⟨[a], []⟩ = pure () := by kernel_rfl
theorem newCall_pm (a : Value) : checkBuiltinCall "itertools.permutations.__new__" ⟨[.type "itertools.permutations", a], []⟩ = pure () := by kernel_rfl
theorem entry_pm_new : entryFor table "itertools.permutations.__new__" = some Builtin.«itertools.permutations.__new__» := entryFor_of_tree (by kernel_rfl)
theorem slot_pm_iter : Slot "itertools.permutations" "__iter__" "itertools.permutations.__iter__" :=
  .of (owner := "itertools.permutations") (n := "__iter__") (by rw [typeLookup_type, builtinLookup_eq_fast]; kernel_rfl) (by decide +kernel) (by decide +kernel) (by decide +kernel)
    (by first | exact .inl (by decide +kernel) | exact .inr (by decide +kernel)) sub_pm
theorem slot_pm_next : Slot "itertools.permutations" "__next__" "itertools.permutations.__next__" :=
  .of (owner := "itertools.permutations") (n := "__next__") (by rw [typeLookup_type, builtinLookup_eq_fast]; kernel_rfl) (by decide +kernel) (by decide +kernel) (by decide +kernel)
    (by first | exact .inl (by decide +kernel) | exact .inr (by decide +kernel)) sub_pm
theorem entry_pm_iter : entryFor table "itertools.permutations.__iter__" = some Builtin.«dict_keyiterator.__iter__» :=
  entryFor_alias (id' := "dict_keyiterator.__iter__") (by kernel_rfl) (by first | rfl | decide +kernel | (unfold String.splitOn; simp +decide [String.splitOnAux])) (by decide +kernel) (by kernel_rfl)
theorem entry_pm_next : entryFor table "itertools.permutations.__next__" = some Builtin.«itertools.permutations.__next__» := entryFor_of_tree (by kernel_rfl)
theorem owner_pm : Manifest.owners.lookup (String.ofList ['s', 'n', 'o', 'i', 't', 'a', 't', 'u', 'm', 'r', 'e', 'p', '.', 's', 'l', 'o', 'o', 't', 'r', 'e', 't', 'i'].reverse) = some Manifest.sig_itertools_permutations := by kernel_rfl
theorem args_pm_iter (a : Value) : argsOk "itertools.permutations.__iter__" ⟨[a], []⟩ := by
  unfold argsOk; rw [signature?_of (id := "itertools.permutations.__iter__") (n := ['_', '_', 'r', 'e', 't', 'i', '_', '_']) (o := ['s', 'n', 'o', 'i', 't', 'a', 't', 'u', 'm', 'r', 'e', 'p', '.', 's', 'l', 'o', 'o', 't', 'r', 'e', 't', 'i']) (by kernel_rfl) owner_pm]; kernel_rfl
theorem args_pm_next (a : Value) : argsOk "itertools.permutations.__next__" ⟨[a], []⟩ := by
  unfold argsOk; rw [signature?_of (id := "itertools.permutations.__next__") (n := ['_', '_', 't', 'x', 'e', 'n', '_', '_']) (o := ['s', 'n', 'o', 'i', 't', 'a', 't', 'u', 'm', 'r', 'e', 'p', '.', 's', 'l', 'o', 'o', 't', 'r', 'e', 't', 'i']) (by kernel_rfl) owner_pm]; kernel_rfl
theorem nolen_pm : typeLookup (.type "itertools.permutations") "__len__" = pure none := by rw [typeLookup_type, builtinLookup_eq_fast]; kernel_rfl
theorem nohint_pm : typeLookup (.type "itertools.permutations") "__length_hint__" = pure none := by rw [typeLookup_type, builtinLookup_eq_fast]; kernel_rfl
/-- one row to the next -/
def nextP (n : Nat) : (place : Nat) → (indices cycles : List Nat) → Option (List Nat × List Nat)
  | 0, _, _ => none
  | i + 1, indices, cycles =>
    let c := cycles.getD i 0 - 1
    if c == 0 then nextP n i (indices.take i ++ indices.drop (i + 1) ++ [indices.getD i 0]) (cycles.set i (n - i))
    else some ((indices.set i (indices.getD (n - c) 0)).set (n - c) (indices.getD i 0), cycles.set i c)
abbrev IsPm (h : Heap) (m T : Addr) (st : Int) (r : Int) (bf : Value) (nums : List Nat) : Prop := h.get? m = some { cls := .type "itertools.permutations", dict := none, data := .fields (([.ref T, rawInt st, rawInt r, bf] ++ nums.map fun (n : Nat) => rawInt n).toArray), slots := #[] }
abbrev IsT (h : Heap) (T : Addr) (vs : List Value) : Prop := h.get? T = some { cls := .type "tuple", data := .seq vs.toArray }
end Kp

namespace Kp
open PySem PySem.Spec PyProof.Rows
open Sem (wp)
theorem cls_pm (r : Value) : Builtin.Itertools.itClassAndRest "permutations" ⟨[.type "itertools.permutations", r], []⟩ = pure (.type "itertools.permutations", [r]) := by
  unfold Builtin.Itertools.itClassAndRest
  have e : ("itertools." ++ "permutations" : String) = "itertools.permutations" := by decide
  simp only [e, isType, sub_pm, pure_bind, Bool.not_true, Bool.false_eq_true, if_false]
theorem bind_pm (r : Value) : Builtin.Itertools.itBindNamed "permutations" ["iterable", "r"] 1 2 [r] [] = pure [some r, none] := by
  first | rfl | kernel_rfl
theorem noDict_pm : typeHasDict (.type "itertools.permutations") = false := by decide +kernel
section
variable {prog : Program} {w : World} {A : Around} {E : Value → Shared → Prop} {s : Shared}
abbrev pmT (h : Heap) (items : List Value) : Heap := h.push { cls := .type "tuple", data := .seq items.toArray }
abbrev pmM (h : Heap) (items : List Value) : Heap := (pmT h items).push { cls := .type "itertools.permutations", data := .fields (([.ref h.objs.size, rawInt (if (items.length : Int).toNat > items.length then 2 else 0), rawInt ((items.length : Int).toNat : Nat), .none] ++ (List.range items.length).map (fun (i : Nat) => rawInt i) ++ (List.range (items.length : Int).toNat).map fun (i : Nat) => rawInt ((items.length : Int) - i))).toArray }
theorem new_pm (r : Addr) : MeetsIn prog w (Builtin.«itertools.permutations.__new__» ⟨[.type "itertools.permutations", .ref r], []⟩)
    (fun A R s => wpAny (model prog w) A.in1 (collect (.ref r)) (fun items s1 => items.length ≤ 1000 ∧ R (.ok (.ret (.ref (pmT s1.heap items).objs.size))) { s1 with heap := pmM s1.heap items }) (fun e s1 => R (.error e) s1) s) :=
  .of_wp fun A R s h => by
    unfold Builtin.«itertools.permutations.__new__»
    refine wpAny_bind (wpAny_of_eq (cls_pm _) ?_)
    try dsimp only
    refine wpAny_bind (wpAny_of_eq (bind_pm _) ?_)
    try dsimp only
    refine wpAny_bind (wpAny_mono h (fun items s1 hR => ?_) fun _ _ z => z)
    obtain ⟨hl, hR⟩ := hR
    show wpAny _ _ (pure (items.length : Int) >>= _) _ _ _
    refine wpAny_bind (wpAny_pure ?_)
    try dsimp only
    rw [if_neg (show ¬ ((items.length : Int) < 0) by omega), if_neg (show ¬ (Builtin.Itertools.itTooMany (items.length : Int) = true) by unfold Builtin.Itertools.itTooMany; rw [decide_eq_true_iff]; omega)]
    refine wpAny_bind (wpAny_newTuple ?_ (by rw [sizeLine_eq]; omega))
    refine wpAny_bind ?_
    unfold Builtin.Itertools.itNewRecord
    rw [noDict_pm]
    simp only [Bool.not_false, if_true]
    have hsz : ∀ T : Value, sizeOk (.fields (([T, rawInt (if (items.length : Int).toNat > items.length then 2 else 0), rawInt ((items.length : Int).toNat : Nat), .none] ++ (List.range items.length).map (fun (i : Nat) => rawInt i) ++ (List.range (items.length : Int).toNat).map fun (i : Nat) => rawInt ((items.length : Int) - i))).toArray) := fun T => by
      show Array.size _ ≤ sizeLine + 2
      rw [List.size_toArray, List.length_append, List.length_append, List.length_map, List.length_map, List.length_range, List.length_range, sizeLine_eq]
      simp only [List.length_cons, List.length_nil]
      omega
    refine wpAny_newObj_type ?_ (hsz _)
    exact wpAny_pure ⟨_, rfl, hR⟩
theorem call_pm {r : Addr} {Q : Value → Shared → Prop}
    (hx : wpAny (model prog w) A.in1.in1 (collect (.ref r)) (fun items s1 => items.length ≤ 1000 ∧ ∀ h', IsT h' s1.heap.objs.size items → IsPm h' (s1.heap.objs.size + 1) s1.heap.objs.size 0 items.length .none (List.range items.length ++ (List.range items.length).map fun i => items.length - i) → h'.objs.size = s1.heap.objs.size + 2 →
      (∀ c o, s1.heap.get? c = some o → h'.get? c = some o) → Q (.ref (s1.heap.objs.size + 1)) { s1 with heap := h' }) E s) :
    wpAny (model prog w) A (call (.type "itertools.permutations") [.ref r]) Q E s := by
  refine callType_newIn called_pm (by decide +kernel) (typeCall_pm _) (newCall_pm _) (fun obj => F.args_object_init_2 obj _) entry_pm_new (new_pm r) ?_
  show wpAny (model prog w) A.in1.in1 (collect (.ref r)) _ _ _
  refine wpAny_mono hx (fun items s1 h => ?_) fun _ _ z => z
  obtain ⟨hl, h⟩ := h
  have z : (pmT s1.heap items).objs.size = s1.heap.objs.size + 1 := Heap.size_push ..
  have z2 : (pmM s1.heap items).objs.size = s1.heap.objs.size + 2 := by rw [Heap.size_push, z]
  have e1 : (items.length : Int).toNat = items.length := by omega
  have eF : ([.ref s1.heap.objs.size, rawInt (if (items.length : Int).toNat > items.length then 2 else 0), rawInt ((items.length : Int).toNat : Nat), .none] ++ (List.range items.length).map (fun (i : Nat) => rawInt i) ++ (List.range (items.length : Int).toNat).map fun (i : Nat) => rawInt ((items.length : Int) - i)) = [.ref s1.heap.objs.size, rawInt 0, rawInt items.length, .none] ++ (List.range items.length ++ (List.range items.length).map fun i => items.length - i).map fun (n : Nat) => rawInt n := by
    rw [e1, if_neg (by omega), List.map_append, List.map_map, List.append_assoc]
    congr 2
    refine List.map_congr_left fun i hi => ?_
    rw [List.mem_range] at hi
    show rawInt ((items.length : Int) - i) = rawInt ((items.length - i : Nat) : Int)
    congr 1
    omega
  have gm : (pmM s1.heap items).get? (pmT s1.heap items).objs.size = some { cls := .type "itertools.permutations", dict := none, data := .fields (([.ref s1.heap.objs.size, rawInt (if (items.length : Int).toNat > items.length then 2 else 0), rawInt ((items.length : Int).toNat : Nat), .none] ++ (List.range items.length).map (fun (i : Nat) => rawInt i) ++ (List.range (items.length : Int).toNat).map fun (i : Nat) => rawInt ((items.length : Int) - i))).toArray, slots := #[] } := Heap.get?_push_size _ rfl
  have gT : (pmM s1.heap items).get? s1.heap.objs.size = some { cls := .type "tuple", data := .seq items.toArray } := Heap.get?_push_of_some _ (Heap.get?_push_size _ rfl)
  have gm' : IsPm (pmM s1.heap items) (s1.heap.objs.size + 1) s1.heap.objs.size 0 items.length .none (List.range items.length ++ (List.range items.length).map fun i => items.length - i) := by
    rw [z, eF] at gm
    exact gm
  have hq := h _ gT gm' z2 fun c o e => Heap.get?_push_of_some _ (Heap.get?_push_of_some _ e)
  have hq' : Q (.ref (pmT s1.heap items).objs.size) { s1 with heap := pmM s1.heap items } := by rw [z]; exact hq
  show _ ∧ _
  exact ⟨hl, ⟨_, gm, rfl⟩, hq'⟩
end
end Kp

namespace Kp
open PySem PySem.Spec PyProof.Rows
open Sem (wp)
section
variable {prog : Program} {w : World} {A : Around} {E : Value → Shared → Prop} {s : Shared}
theorem nums_back (nums : List Nat) (T : Addr) (st r : Int) (bf : Value) : ((([.ref T, rawInt st, rawInt r, bf] ++ nums.map fun (n : Nat) => rawInt n).drop 4).map fun | .int n _ => n.toNat | _ => 0) = nums := by
  simp only [List.cons_append, List.nil_append, List.drop_succ_cons, List.drop_zero, List.map_map]
  have : ((fun | .int n _ => n.toNat | _ => 0) ∘ fun (n : Nat) => rawInt n : Nat → Nat) = id := by
    funext n
    show ((n : Int)).toNat = n
    omega
  rw [this, List.map_id]
abbrev pmF (T : Addr) (st r : Int) (bf : Value) (nums : List Nat) : Array Value := ([.ref T, rawInt st, rawInt r, bf] ++ nums.map fun (n : Nat) => rawInt n).toArray
theorem pmF_size (T : Addr) (st r : Int) (bf : Value) (nums : List Nat) : (pmF T st r bf nums).size = nums.length + 4 := by
  rw [List.size_toArray, List.length_append, List.length_map]
  simp only [List.length_cons, List.length_nil]
  omega
theorem pmF_0 {T : Addr} {st r : Int} {bf : Value} {nums : List Nat} : (pmF T st r bf nums)[0]? = some (.ref T) := by simp
theorem pmF_1 {T : Addr} {st r : Int} {bf : Value} {nums : List Nat} : (pmF T st r bf nums)[1]? = some (rawInt st) := by simp
theorem pmF_2 {T : Addr} {st r : Int} {bf : Value} {nums : List Nat} : (pmF T st r bf nums)[2]? = some (rawInt r) := by simp
theorem pmF_3 {T : Addr} {st r : Int} {bf : Value} {nums : List Nat} : (pmF T st r bf nums)[3]? = some bf := by simp
theorem pmF_set1 {T : Addr} {st st' r : Int} {bf : Value} {nums : List Nat} : (pmF T st r bf nums).setIfInBounds 1 (rawInt st') = pmF T st' r bf nums := by
  show (List.toArray _).setIfInBounds 1 _ = _
  rw [List.setIfInBounds_toArray]
  rfl
theorem pmF_set3 {T : Addr} {st r : Int} {bf bf' : Value} {nums : List Nat} : (pmF T st r bf nums).setIfInBounds 3 bf' = pmF T st r bf' nums := by
  show (List.toArray _).setIfInBounds 3 _ = _
  rw [List.setIfInBounds_toArray]
  rfl
theorem pm_result {m T : Addr} {items : List Value} {bf : Value} {st : Int} {nums idx : List Nat} {k : Nat} {Q : Value → Shared → Prop} (gm : IsPm s.heap m T st k bf nums) (hk : k ≤ 1000)
    (hQ : ∀ h', IsPm h' m T st k (.ref s.heap.objs.size) nums → IsT h' s.heap.objs.size ((idx.take k).map fun i => items.toArray.getD i .none) → h'.objs.size = s.heap.objs.size + 1 → (∀ c o, c ≠ m → s.heap.get? c = some o → h'.get? c = some o) → Q (.ref s.heap.objs.size) { s with heap := h' }) :
    wpAny (model prog w) A (do
        let t ← newTuple (List.map (fun i => items.toArray.getD i Value.none) (List.take k idx))
        let before ← field (Value.ref m) 3
        setField (Value.ref m) 3 t
        letGo [before] [t]
        ret t) (fun fin s' => ∃ v, fin = .done (.ret v) ∧ Q v s') E s := by
  refine wpAny_bind (wpAny_newTuple ?_ (by rw [List.length_map, List.length_take, sizeLine_eq]; omega))
  have gm₁ : IsPm (s.heap.push { cls := .type "tuple", data := .seq ((idx.take k).map fun i => items.toArray.getD i .none).toArray }) m T st k bf nums := Heap.get?_push_of_some _ gm
  have gT₁ : IsT (s.heap.push { cls := .type "tuple", data := .seq ((idx.take k).map fun i => items.toArray.getD i .none).toArray }) s.heap.objs.size ((idx.take k).map fun i => items.toArray.getD i .none) := Heap.get?_push_size _ rfl
  refine wpAny_bind (wpAny_field gm₁ rfl (x := bf) pmF_3 ?_)
  refine wpAny_bind (wpAny_setField_rec gm₁ (by rw [show ([.ref T, rawInt st, rawInt k, bf] ++ nums.map fun (n : Nat) => rawInt n).toArray = pmF T st k bf nums from rfl, pmF_size]; omega) fun m₂ gm₂ ms₂ => ?_)
  have gm₂' : IsPm m₂ m T st k (.ref s.heap.objs.size) nums := by
    have := gm₂
    rw [show ([.ref T, rawInt st, rawInt k, bf] ++ nums.map fun (n : Nat) => rawInt n).toArray = pmF T st k bf nums from rfl, pmF_set3] at this
    exact this
  refine wpAny_bind (wpAny_letGo ?_)
  have hlt : m < s.heap.objs.size := Heap.lt_size gm
  refine wpAny_pure ⟨_, rfl, hQ m₂ gm₂' (ms₂.extBut _ _ (Nat.ne_of_gt hlt) gT₁) ?_ fun c o c1 e => ms₂.extBut _ _ c1 (Heap.get?_push_of_some _ e)⟩
  rw [ms₂.1, Heap.size_push]
/-- the first row -/
theorem pm_first {m T : Addr} {items : List Value} {bf : Value} {nums : List Nat} {k : Nat} {Q : Value → Shared → Prop} (gT : IsT s.heap T items) (gm : IsPm s.heap m T 0 k bf nums) (hk : k ≤ 1000)
    (hQ : ∀ h', IsPm h' m T 1 k (.ref s.heap.objs.size) nums → IsT h' s.heap.objs.size ((nums.take k).map fun i => items.toArray.getD i .none) → h'.objs.size = s.heap.objs.size + 1 → (∀ c o, c ≠ m → s.heap.get? c = some o → h'.get? c = some o) → Q (.ref s.heap.objs.size) { s with heap := h' }) :
    wpAny (model prog w) A (Builtin.«itertools.permutations.__next__» ⟨[.ref m], []⟩) (fun fin s' => ∃ v, fin = .done (.ret v) ∧ Q v s') E s := by
  show wpAny _ _ (field (.ref m) 0 >>= _) _ _ _
  refine wpAny_bind (wpAny_field gm rfl (x := .ref T) pmF_0 ?_)
  refine wpAny_bind ?_
  unfold Builtin.Itertools.itPoolItems
  refine wpAny_bind (wpAny_seqItems gT rfl ?_)
  try dsimp only
  refine wpAny_pure ?_
  try dsimp only
  refine wpAny_bind ?_
  unfold Builtin.Itertools.itIntField
  refine wpAny_bind (wpAny_field gm rfl (x := rawInt k) pmF_2 (wpAny_pure ?_))
  try dsimp only
  refine wpAny_bind ?_
  unfold Builtin.Itertools.itNumbersFrom
  refine wpAny_bind (wpAny_load gm ?_)
  try dsimp only
  refine wpAny_pure ?_
  generalize hx : List.map _ (List.drop 4 _) = nn
  have hnn : nums = nn := by
    rw [← hx]
    exact (nums_back ..).symm
  subst hnn
  rw [show ((k : Int)).toNat = k by omega]
  refine wpAny_bind ?_
  refine wpAny_bind (wpAny_field gm rfl (x := rawInt 0) pmF_1 (wpAny_pure ?_))
  try dsimp only
  refine wpAny_bind (wpAny_setField_rec gm (by rw [show ([.ref T, rawInt 0, rawInt k, bf] ++ nums.map fun (n : Nat) => rawInt n).toArray = pmF T 0 k bf nums from rfl, pmF_size]; omega) fun m₂ gm₂ ms₂ => ?_)
  have gm₂' : IsPm m₂ m T 1 k bf nums := by
    have := gm₂
    rw [show ([.ref T, rawInt 0, rawInt k, bf] ++ nums.map fun (n : Nat) => rawInt n).toArray = pmF T 0 k bf nums from rfl, pmF_set1] at this
    exact this
  have := pm_result (prog := prog) (w := w) (A := A) (E := E) (s := { s with heap := m₂ }) (items := items) (idx := nums) (Q := Q) gm₂' hk (by
    show ∀ h', _ → _ → _ → _ → _
    rw [show m₂.objs.size = s.heap.objs.size from ms₂.1]
    exact fun h' a b c d => hQ h' a b c fun c o c1 e => d c o c1 (ms₂.extBut _ _ c1 e))
  exact this
end
end Kp

namespace Kp
open PySem PySem.Spec PyProof.Rows
open Sem (wp)
section
variable {prog : Program} {w : World} {A : Around} {E : Value → Shared → Prop} {s : Shared}
theorem pmF_nums {T : Addr} {st r : Int} {bf : Value} {nums nn : List Nat} : (pmF T st r bf nums).extract 0 4 ++ (nn.map fun (n : Nat) => rawInt n).toArray = pmF T st r bf nn := by
  have : (pmF T st r bf nums).extract 0 4 = #[.ref T, rawInt st, rawInt r, bf] := by
    show (List.toArray _).extract 0 4 = _
    rw [List.extract_toArray]
    rfl
  rw [this]
  simp only [List.append_toArray, pmF]
theorem nextP_at {f : Nat → Nat → List Nat → List Nat → Option (List Nat × List Nat)} {n k : Nat} {a b : List Nat} {R : Option (List Nat × List Nat)} (q : f n k a b = R) (h0 : ∀ n ix cy, f n 0 ix cy = none)
    (hs : ∀ n i ix cy, f n (i + 1) ix cy = let c := cy.getD i 0 - 1
      if c == 0 then f n i (ix.take i ++ ix.drop (i + 1) ++ [ix.getD i 0]) (cy.set i (n - i))
      else some ((ix.set i (ix.getD (n - c) 0)).set (n - c) (ix.getD i 0), cy.set i c)) : nextP n k a b = R := by
  rw [← q]
  clear q
  induction k generalizing a b with
  | zero => rw [h0]; rfl
  | succ i ih =>
    rw [hs]
    show (let c := b.getD i 0 - 1; if c == 0 then nextP n i _ _ else some _) = _
    rw [ih]
abbrev pmRes (m : Addr) (items : List Value) (k : Nat) (idx : List Nat) : Sem PySem.Fin := do
        let t ← newTuple (List.map (fun i => items.toArray.getD i Value.none) (List.take k idx))
        let before ← field (Value.ref m) 3
        setField (Value.ref m) 3 t
        letGo [before] [t]
        ret t
/-- a later row -/
theorem pm_more {m T : Addr} {items : List Value} {bf : Value} {nums ix cy : List Nat} {k : Nat} {Q : Value → Shared → Prop} (gT : IsT s.heap T items) (gm : IsPm s.heap m T 1 k bf nums) (hk : k ≤ 1000) (hl : (ix ++ cy).length ≤ 2000) (hl0 : nums.length ≤ 2000)
    (hp : nextP items.length k (nums.take items.length) (nums.drop items.length) = some (ix, cy))
    (hQ : ∀ h', IsPm h' m T 1 k (.ref s.heap.objs.size) (ix ++ cy) → IsT h' s.heap.objs.size ((ix.take k).map fun i => items.toArray.getD i .none) → h'.objs.size = s.heap.objs.size + 1 → (∀ c o, c ≠ m → s.heap.get? c = some o → h'.get? c = some o) → Q (.ref s.heap.objs.size) { s with heap := h' }) :
    wpAny (model prog w) A (Builtin.«itertools.permutations.__next__» ⟨[.ref m], []⟩) (fun fin s' => ∃ v, fin = .done (.ret v) ∧ Q v s') E s := by
  show wpAny _ _ (field (.ref m) 0 >>= _) _ _ _
  refine wpAny_bind (wpAny_field gm rfl (x := .ref T) pmF_0 ?_)
  refine wpAny_bind ?_
  unfold Builtin.Itertools.itPoolItems
  refine wpAny_bind (wpAny_seqItems gT rfl ?_)
  try dsimp only
  refine wpAny_pure ?_
  try dsimp only
  refine wpAny_bind ?_
  unfold Builtin.Itertools.itIntField
  refine wpAny_bind (wpAny_field gm rfl (x := rawInt k) pmF_2 (wpAny_pure ?_))
  try dsimp only
  refine wpAny_bind ?_
  unfold Builtin.Itertools.itNumbersFrom
  refine wpAny_bind (wpAny_load gm ?_)
  try dsimp only
  refine wpAny_pure ?_
  generalize hx : List.map _ (List.drop 4 _) = nn
  have hnn : nums = nn := by
    rw [← hx]
    exact (nums_back ..).symm
  subst hnn
  rw [show ((k : Int)).toNat = k by omega]
  refine wpAny_bind ?_
  refine wpAny_bind (wpAny_field gm rfl (x := rawInt 1) pmF_1 (wpAny_pure ?_))
  try dsimp only
  split
  · rename_i q
    cases q
  · split
    · rename_i ix' cy' q
      have q' : nextP items.length k (nums.take items.length) (nums.drop items.length) = some (ix', cy') := nextP_at q (fun _ _ _ => rfl) (fun _ _ _ _ => rfl)
      rw [hp] at q'
      cases q'
      show wpAny _ _ (Builtin.Itertools.itSetNumbersFrom (.ref m) 4 (ix ++ cy) >>= fun _ => pmRes m items k ix) _ _ _
      refine wpAny_bind ?_
      unfold Builtin.Itertools.itSetNumbersFrom
      try dsimp only
      refine wpAny_updateFields gm rfl ?_ (by
        show ((pmF T 1 k bf nums).extract 0 4 ++ ((ix ++ cy).map fun (n : Nat) => rawInt n).toArray).size ≤ _
        rw [pmF_nums, pmF_size, sizeLine_eq]
        omega)
      have gm₂ := Heap.get?_update_self (Obj.mapFields fun fs => fs.extract 0 4 ++ ((ix ++ cy).map fun (n : Nat) => rawInt n).toArray) gm rfl
      have ms₂ : Heap.SameBut m s.heap (s.heap.update m (Obj.mapFields fun fs => fs.extract 0 4 ++ ((ix ++ cy).map fun (n : Nat) => rawInt n).toArray)) := Heap.SameBut.update ..
      have gm₂' : IsPm (s.heap.update m (Obj.mapFields fun fs => fs.extract 0 4 ++ ((ix ++ cy).map fun (n : Nat) => rawInt n).toArray)) m T 1 k bf (ix ++ cy) := by
        have e : Obj.mapFields (fun fs => fs.extract 0 4 ++ ((ix ++ cy).map fun (n : Nat) => rawInt n).toArray) ⟨.type "itertools.permutations", none, .fields (pmF T 1 k bf nums), #[]⟩ = ⟨.type "itertools.permutations", none, .fields (pmF T 1 k bf (ix ++ cy)), #[]⟩ := by
          show (⟨_, _, .fields ((pmF T 1 k bf nums).extract 0 4 ++ ((ix ++ cy).map fun (n : Nat) => rawInt n).toArray), _⟩ : Obj) = _
          rw [pmF_nums]
        exact gm₂.trans (congrArg some e)
      have := pm_result (prog := prog) (w := w) (A := A) (E := E) (s := { s with heap := s.heap.update m (Obj.mapFields fun fs => fs.extract 0 4 ++ ((ix ++ cy).map fun (n : Nat) => rawInt n).toArray) }) (items := items) (idx := ix) (Q := Q) gm₂' hk (by
        show ∀ h', _ → _ → _ → _ → _
        rw [show (s.heap.update m (Obj.mapFields fun fs => fs.extract 0 4 ++ ((ix ++ cy).map fun (n : Nat) => rawInt n).toArray)).objs.size = s.heap.objs.size from ms₂.1]
        exact fun h' a b c d => hQ h' a b c fun c o c1 e => d c o c1 (ms₂.extBut _ _ c1 e))
      exact this
    · rename_i q
      have q' : nextP items.length k (nums.take items.length) (nums.drop items.length) = none := nextP_at q (fun _ _ _ => rfl) (fun _ _ _ _ => rfl)
      rw [hp] at q'
      cases q'
  · rename_i q1 q2
    exact absurd rfl (q2 ·)
/-- the end -/
theorem pm_over {m T : Addr} {items : List Value} {bf : Value} {nums : List Nat} {k : Nat} {Q : Value → Shared → Prop} (hh : A.handled = none) (gT : IsT s.heap T items) (gm : IsPm s.heap m T 1 k bf nums)
    (hp : nextP items.length k (nums.take items.length) (nums.drop items.length) = none)
    (hQ : ∀ e h', CpRep.StopE e h' → (∀ c o, c ≠ m → s.heap.get? c = some o → h'.get? c = some o) → E e { s with heap := h' }) :
    wpAny (model prog w) A (Builtin.«itertools.permutations.__next__» ⟨[.ref m], []⟩) (fun fin s' => ∃ v, fin = .done (.ret v) ∧ Q v s') E s := by
  show wpAny _ _ (field (.ref m) 0 >>= _) _ _ _
  refine wpAny_bind (wpAny_field gm rfl (x := .ref T) pmF_0 ?_)
  refine wpAny_bind ?_
  unfold Builtin.Itertools.itPoolItems
  refine wpAny_bind (wpAny_seqItems gT rfl ?_)
  try dsimp only
  refine wpAny_pure ?_
  try dsimp only
  refine wpAny_bind ?_
  unfold Builtin.Itertools.itIntField
  refine wpAny_bind (wpAny_field gm rfl (x := rawInt k) pmF_2 (wpAny_pure ?_))
  try dsimp only
  refine wpAny_bind ?_
  unfold Builtin.Itertools.itNumbersFrom
  refine wpAny_bind (wpAny_load gm ?_)
  try dsimp only
  refine wpAny_pure ?_
  generalize hx : List.map _ (List.drop 4 _) = nn
  have hnn : nums = nn := by
    rw [← hx]
    exact (nums_back ..).symm
  subst hnn
  rw [show ((k : Int)).toNat = k by omega]
  refine wpAny_bind ?_
  refine wpAny_bind (wpAny_field gm rfl (x := rawInt 1) pmF_1 (wpAny_pure ?_))
  try dsimp only
  split
  · rename_i q
    cases q
  · split
    · rename_i ix' cy' q
      have q' : nextP items.length k (nums.take items.length) (nums.drop items.length) = some (ix', cy') := nextP_at q (fun _ _ _ => rfl) (fun _ _ _ _ => rfl)
      rw [hp] at q'
      cases q'
    · show wpAny _ _ (setField (.ref m) 1 (rawInt 2) >>= fun _ => Builtin.Itertools.itStop) _ _ _
      refine wpAny_bind (wpAny_setField_rec gm (by rw [show ([.ref T, rawInt 1, rawInt k, bf] ++ nums.map fun (n : Nat) => rawInt n).toArray = pmF T 1 k bf nums from rfl, pmF_size]; omega) fun m₂ gm₂ ms₂ => ?_)
      show wpAny _ _ (newExc (.type "StopIteration") [] >>= _) _ _ _
      refine wpAny_bind ?_
      simp only [newExc, newTuple]
      refine wpAny_bind (wpAny_newObj_type ?_ (by size_fits))
      refine wpAny_bind (m := firstArgMember _ _) (wpAny_of_eq (a := Value.none) (by first | rfl | (simp only [firstArgMember]; rfl)) ?_)
      refine wpAny_newObj_type ?_ (by size_fits)
      simp only [raiseNew]
      refine wpAny_bind (wpAny_handled ?_)
      first | rw [show A.in1.handled = none from hh] | rw [hh]
      refine wpAny_bind (wpAny_pure (wpAny_throw ?_))
      exact hQ _ _ ⟨_, _, _, rfl, Heap.get?_push_size _ rfl, rfl, rfl, rfl⟩ fun c o c1 e => Heap.get?_push_of_some _ (Heap.get?_push_of_some _ (ms₂.extBut _ _ c1 e))
  · rename_i q1 q2
    exact absurd rfl (q2 ·)
end
end Kp

namespace Kp
open PySem PySem.Spec PyProof.Rows
open Sem (wp)
/-- the rows behind the first -/
def runP (n k : Nat) : Nat → List Nat → Option (List (List Nat))
  | 0, _ => none
  | f + 1, nums => match nextP n k (nums.take n) (nums.drop n) with
    | none => some []
    | some (ix, cy) => if (ix ++ cy).length ≤ 2000 then (runP n k f (ix ++ cy)).map (ix.take k :: ·) else none
/-- the rows at their places -/
abbrev RowAt (h : Heap) (items : List Value) (m S : Addr) (v : Value) (row : List Nat) : Prop := ∃ a, v = .ref a ∧ a ≠ m ∧ S < a ∧ IsT h a (row.map fun i => items.toArray.getD i .none)
inductive RowsAt (h : Heap) (items : List Value) (m S : Addr) : List Value → List (List Nat) → Prop
  | nil : RowsAt h items m S [] []
  | cons {v row vs rows} : RowAt h items m S v row → RowsAt h items m S vs rows → RowsAt h items m S (v :: vs) (row :: rows)
theorem RowsAt.snoc {h : Heap} {items : List Value} {m S : Addr} {v : Value} {row : List Nat} : ∀ {vs rows}, RowsAt h items m S vs rows → RowAt h items m S v row → RowsAt h items m S (vs ++ [v]) (rows ++ [row])
  | _, _, .nil, q => .cons q .nil
  | _, _, .cons a r, q => .cons a (r.snoc q)
theorem RowsAt.mono {h h' : Heap} {items : List Value} {m S : Addr} (k : ∀ c o, c ≠ m → c ≠ S → h.get? c = some o → h'.get? c = some o) : ∀ {vs rows}, RowsAt h items m S vs rows → RowsAt h' items m S vs rows
  | _, _, .nil => .nil
  | _, _, .cons ⟨a, e, n1, n2, g⟩ r => .cons ⟨a, e, n1, n2, k a _ n1 (Nat.ne_of_gt n2) g⟩ (r.mono k)
theorem RowsAt.fresh {h : Heap} {items : List Value} {m S x : Addr} (hx : h.objs.size ≤ x) : ∀ {vs rows}, RowsAt h items m S vs rows → Value.ref x ∉ vs
  | _, _, .nil => by simp
  | _, _, .cons ⟨a, e, n1, n2, g⟩ r => by
    intro hm
    rcases List.mem_cons.mp hm with hm | hm
    · rw [e] at hm
      cases hm
      exact absurd (Heap.lt_size g) (Nat.not_lt.mpr hx)
    · exact r.fresh hx hm
section
variable {prog : Program} {w : World} {A : Around} {E : Value → Shared → Prop} {s : Shared}
theorem pm_pyIter {m T : Addr} {st r : Int} {bf : Value} {nums : List Nat} {Q : Value → Shared → Prop} (hm : IsPm s.heap m T st r bf nums) (h : Q (.ref m) s) : wpAny (model prog w) A (pyIter (.ref m)) Q E s := by
  have hT : s.TypeIs (.ref m) "itertools.permutations" := ⟨_, hm, rfl⟩
  refine wpAny_pyIter_slot hT slot_pm_iter (wpAny_call_entry slot_pm_iter hT entry_pm_iter ?_ (args_pm_iter _))
  show wpAny _ _ (ret (.ref m)) _ _ s
  exact wpAny_pure ⟨_, rfl, "itertools.permutations", _, hT, slot_pm_next.lookup, h⟩
theorem pm_pyNext_first {m T : Addr} {items : List Value} {bf : Value} {nums : List Nat} {k : Nat} {Q : Option Value → Shared → Prop} (gT : IsT s.heap T items) (gm : IsPm s.heap m T 0 k bf nums) (hk : k ≤ 1000)
    (hQ : ∀ h', IsPm h' m T 1 k (.ref s.heap.objs.size) nums → IsT h' s.heap.objs.size ((nums.take k).map fun i => items.toArray.getD i .none) → h'.objs.size = s.heap.objs.size + 1 → (∀ c o, c ≠ m → s.heap.get? c = some o → h'.get? c = some o) → Q (some (.ref s.heap.objs.size)) { s with heap := h' }) :
    wpAny (model prog w) A (pyNext (.ref m)) Q E s := by
  have hT0 : s.TypeIs (.ref m) "itertools.permutations" := ⟨_, gm, rfl⟩
  unfold pyNext
  exact wpAny_bind (wpAny_attempt (wpAny_callSpecial?_slot (name := Str.ofString "__next__") hT0 slot_pm_next
    (wpAny_call_entry slot_pm_next hT0 entry_pm_next (pm_first gT gm hk fun h' a b c d => wpAny_pure (hQ h' a b c d)) (args_pm_next _))))
theorem pm_pyNext_more {m T : Addr} {items : List Value} {bf : Value} {nums ix cy : List Nat} {k : Nat} {Q : Option Value → Shared → Prop} (gT : IsT s.heap T items) (gm : IsPm s.heap m T 1 k bf nums) (hk : k ≤ 1000) (hl : (ix ++ cy).length ≤ 2000) (hl0 : nums.length ≤ 2000)
    (hp : nextP items.length k (nums.take items.length) (nums.drop items.length) = some (ix, cy))
    (hQ : ∀ h', IsPm h' m T 1 k (.ref s.heap.objs.size) (ix ++ cy) → IsT h' s.heap.objs.size ((ix.take k).map fun i => items.toArray.getD i .none) → h'.objs.size = s.heap.objs.size + 1 → (∀ c o, c ≠ m → s.heap.get? c = some o → h'.get? c = some o) → Q (some (.ref s.heap.objs.size)) { s with heap := h' }) :
    wpAny (model prog w) A (pyNext (.ref m)) Q E s := by
  have hT0 : s.TypeIs (.ref m) "itertools.permutations" := ⟨_, gm, rfl⟩
  unfold pyNext
  exact wpAny_bind (wpAny_attempt (wpAny_callSpecial?_slot (name := Str.ofString "__next__") hT0 slot_pm_next
    (wpAny_call_entry slot_pm_next hT0 entry_pm_next (pm_more gT gm hk hl hl0 hp fun h' a b c d => wpAny_pure (hQ h' a b c d)) (args_pm_next _))))
theorem pm_pyNext_over {m T : Addr} {items : List Value} {bf : Value} {nums : List Nat} {k : Nat} {Q : Option Value → Shared → Prop} (hh : A.handled = none) (gT : IsT s.heap T items) (gm : IsPm s.heap m T 1 k bf nums)
    (hp : nextP items.length k (nums.take items.length) (nums.drop items.length) = none)
    (hQ : ∀ h', (∀ c o, c ≠ m → s.heap.get? c = some o → h'.get? c = some o) → Q none { s with heap := h' }) :
    wpAny (model prog w) A (pyNext (.ref m)) Q E s := by
  have hT0 : s.TypeIs (.ref m) "itertools.permutations" := ⟨_, gm, rfl⟩
  have hh1 : A.in1.handled = none := hh
  unfold pyNext
  refine wpAny_bind (wpAny_attempt (wpAny_callSpecial?_slot (name := Str.ofString "__next__") hT0 slot_pm_next
    (wpAny_call_entry slot_pm_next hT0 entry_pm_next (pm_over hh1 gT gm hp fun e h' he hk => ?_) (args_pm_next _))))
  obtain ⟨a, o, vs, rfl, ho, hc, _⟩ := he
  refine wpAny_bind (wpAny_isInstance (T := "StopIteration") (b := true) ⟨o, ho, hc⟩ isSubtype_stop ?_)
  exact wpAny_pure (hQ _ hk)
end
section
variable {prog : Program} {w : World} {A : Around} {R : Result → Shared → Prop}
abbrev IsL (h : Heap) (S : Addr) (acc : Array Value) (c : Nat) : Prop := h.get? S = some { cls := .type "list", dict := none, data := .seq acc c, slots := #[] }
theorem pm_loop {m T S : Addr} {items : List Value} {k : Nat} {res : Value} (hh : A.in1.handled = none) (hk : k ≤ 1000) (hmS : m < S) (hTm : T ≠ m) (hTS : T ≠ S) :
    ∀ (f : Nat) (nums : List Nat) (rows done : List (List Nat)) (s : Shared) (acc : Array Value) (c : Nat) (bf : Value), runP items.length k f nums = some rows → nums.length ≤ 2000 → IsT s.heap T items → IsPm s.heap m T 1 k bf nums → IsL s.heap S acc c →
    RowsAt s.heap items m S acc.toList done → acc.toList.Nodup → acc.size + rows.length ≤ 100000 →
    (∀ h' acc' c', (∀ c o, c ≠ m → c ≠ S → s.heap.get? c = some o → h'.get? c = some o) → IsL h' S acc' c' → RowsAt h' items m S acc'.toList (done ++ rows) → acc'.toList.Nodup → R (.ok (.ret res)) { s with heap := h' }) →
    codeAny (model prog w) A (.builtin "list.extend.loop" ⟨[.ref S, .ref m, res], []⟩) R s := by
  intro f
  induction f with
  | zero => intro nums rows done s acc c bf hr; cases hr
  | succ f ih =>
    intro nums rows done s acc c bf hr hl gT gm gS ha nd hsz hR
    refine codeAny_builtin F.entry_extend_loop ?_
    rw [Around.under_plainId F.plain_extend_loop _]
    show wpAny _ A.in1 (pyNext (.ref m) >>= _) _ _ s
    unfold runP at hr
    cases hp : nextP items.length k (nums.take items.length) (nums.drop items.length) with
    | none =>
      rw [hp] at hr
      cases hr
      refine wpAny_bind (pm_pyNext_over hh gT gm hp fun h' hkp => ?_)
      refine wpAny_pure (hR h' acc c (fun c o c1 _ e => hkp c o c1 e) (hkp S _ (Nat.ne_of_gt hmS) gS) ?_ nd)
      rw [List.append_nil]
      exact ha.mono fun c o c1 _ e => hkp c o c1 e
    | some p =>
      obtain ⟨ix, cy⟩ := p
      rw [hp] at hr
      dsimp only at hr
      by_cases hl2 : (ix ++ cy).length ≤ 2000
      · rw [if_pos hl2] at hr
        cases hr2 : runP items.length k f (ix ++ cy) with
        | none => rw [hr2] at hr; cases hr
        | some more =>
          rw [hr2] at hr
          cases hr
          rw [List.length_cons] at hsz
          refine wpAny_bind (pm_pyNext_more gT gm hk hl2 hl hp fun h' gm' gR hs' hkp => ?_)
          have gS' : IsL h' S acc c := hkp S _ (Nat.ne_of_gt hmS) gS
          have lS : S < s.heap.objs.size := Heap.lt_size gS
          have lm : m < s.heap.objs.size := Heap.lt_size gm
          have kp : ∀ c o, c ≠ m → c ≠ S → s.heap.get? c = some o → (h'.update S (Obj.mapSeq (·.push (.ref s.heap.objs.size)))).get? c = some o := fun c o c1 c2 e => (Heap.get?_update_other _ _ (Ne.symm c2)).trans (hkp c o c1 e)
          show wpAny _ A.in1 (updateSeq S (·.push (.ref s.heap.objs.size)) >>= _) _ _ _
          refine wpAny_bind ?_
          refine wpAny_updateSeq gS' rfl (wpAny_pure ⟨plainId_quiet F.plain_extend_loop _, ih (ix ++ cy) more (done ++ [ix.take k]) _ (acc.push (.ref s.heap.objs.size)) _ (.ref s.heap.objs.size) hr2 hl2 ?_ ?_ (Heap.get?_update_self _ gS' rfl) ?_ ?_ ?_ fun h'' acc' c' hk'' gS'' ha'' nd'' => ?_⟩)
            (by rw [sizeLine_eq]; omega) (by show (acc.push _).size ≤ sizeLine + 1; rw [Array.size_push, sizeLine_eq]; omega)
          · exact kp T _ hTm hTS gT
          · exact (Heap.get?_update_other _ _ (Nat.ne_of_gt hmS)).trans gm'
          · rw [Array.toList_push]
            exact (ha.mono kp).snoc ⟨_, rfl, Nat.ne_of_gt lm, lS, (Heap.get?_update_other _ _ (Nat.ne_of_lt lS)).trans gR⟩
          · rw [Array.toList_push, List.nodup_append]
            refine ⟨nd, by simp, fun a ha' b hb => ?_⟩
            rw [List.mem_singleton.mp hb]
            rintro rfl
            exact ha.fresh (Nat.le_refl _) ha'
          · rw [Array.size_push]; omega
          · refine hR h'' acc' c' (fun c o c1 c2 e => hk'' c o c1 c2 (kp c o c1 c2 e)) gS'' ?_ nd''
            rw [show done ++ ix.take k :: more = done ++ [ix.take k] ++ more by simp]
            exact ha''
      · rw [if_neg hl2] at hr; cases hr
end
end Kp

namespace Kp
open PySem PySem.Spec PyProof.Rows
open Sem (wp)
section
variable {prog : Program} {w : World} {A : Around} {E : Value → Shared → Prop} {s : Shared}
theorem pm_collect {m T : Addr} {items : List Value} {k f : Nat} {bf : Value} {nums : List Nat} {rows : List (List Nat)} {Q : List Value → Shared → Prop} (hh : A.in1.handled = none) (hk : k ≤ 1000) (hTm : T ≠ m)
    (hr : runP items.length k f nums = some rows) (hl : nums.length ≤ 2000) (gT : IsT s.heap T items) (gm : IsPm s.heap m T 0 k bf nums) (hsz : rows.length ≤ 90000)
    (hQ : ∀ h' acc, (∀ c o, c ≠ m → s.heap.get? c = some o → h'.get? c = some o) → RowsAt h' items m s.heap.objs.size acc (nums.take k :: rows) → acc.Nodup → Q acc { s with heap := h' }) :
    wpAny (model prog w) A (collect (.ref m)) Q E s := by
  have lm : m < s.heap.objs.size := Heap.lt_size gm
  have lT : T < s.heap.objs.size := Heap.lt_size gT
  have hSI : s.heap.objs.size ≠ m := Nat.ne_of_gt lm
  unfold collect
  refine wpAny_bind (wpAny_runValue (codeAny_builtin F.entry_proto_collect ?_))
  rw [Around.under_plainId F.plain_proto_collect _]
  show wpAny _ A.in1 (newList [] >>= fun l => again (.builtin "list.__iadd__" ⟨[l, .ref m], []⟩)) _ _ s
  refine wpAny_bind (wpAny_newObj_type ?_)
  refine wpAny_pure ⟨plainId_quiet F.plain_list_iadd _, codeAny_builtin F.entry_list_iadd ?_⟩
  rw [Around.under_plainId F.plain_list_iadd _]
  have gm₁ : IsPm (s.heap.push { cls := .type "list", data := .seq ([] : List Value).toArray }) m T 0 k bf nums := Heap.get?_push_of_some _ gm
  have hT1 : ({ s with heap := s.heap.push { cls := .type "list", data := .seq ([] : List Value).toArray } } : Shared).TypeIs (.ref m) "itertools.permutations" := ⟨_, gm₁, rfl⟩
  show wpAny _ A.in1 (Builtin.List.listExtendWith (.ref s.heap.objs.size) (.ref m) (.ref s.heap.objs.size)) _ _ _
  unfold Builtin.List.listExtendWith
  refine wpAny_bind (wpAny_typeOf hT1 ?_)
  have h1 : Builtin.List.listSameRef (.ref s.heap.objs.size) (.ref m) = false := by simp [Builtin.List.listSameRef, hSI]
  have h2 : (Value.type "itertools.permutations" == Value.type "list") = false := by decide
  have h3 : (Value.type "itertools.permutations" == Value.type "tuple") = false := by decide
  simp only [h1, h2, h3, Bool.or_false, Bool.false_eq_true, if_false]
  refine wpAny_bind (pm_pyIter gm₁ ?_)
  refine wpAny_bind (wpAny_holding ?_)
  unfold Builtin.List.listLengthHint
  refine wpAny_bind (wpAny_specialOf hT1 nolen_pm ?_)
  show wpAny _ A.in1 (specialOf (Value.ref m) (Str.ofString "__length_hint__") >>= _) _ _ _
  refine wpAny_bind (wpAny_specialOf hT1 nohint_pm ?_)
  refine wpAny_pure ?_
  show wpAny _ A.in1 (rule "list.extend.makes-room" >>= fun _ => Builtin.List.listTouch (.ref s.heap.objs.size) >>= fun _ =>
    again (.builtin "list.extend.loop" ⟨[.ref s.heap.objs.size, .ref m, .ref s.heap.objs.size], []⟩)) _ _ _
  refine wpAny_bind (wpAny_rule ?_)
  have hS₁ : (s.heap.push { cls := .type "list", data := .seq ([] : List Value).toArray }).get? s.heap.objs.size = some { cls := .type "list", data := .seq ([] : List Value).toArray } := Heap.get?_push_size _ rfl
  refine wpAny_bind ?_
  show wpAny _ A.in1 (updateSeq s.heap.objs.size (·.push .none) >>= fun _ => updateSeq s.heap.objs.size (·.pop)) _ _ _
  refine wpAny_bind (wpAny_updateSeq hS₁ rfl ?_)
  have hS₂ := Heap.get?_update_self (Obj.mapSeq (·.push Value.none)) hS₁ rfl
  refine wpAny_updateSeq hS₂ rfl ?_
  have hS₃ := Heap.get?_update_self (Obj.mapSeq (·.pop)) hS₂ rfl
  generalize hg : ((s.heap.push { cls := .type "list", data := .seq ([] : List Value).toArray }).update s.heap.objs.size (Obj.mapSeq (·.push Value.none))).update s.heap.objs.size (Obj.mapSeq (·.pop)) = g at hS₃ ⊢
  have oth : ∀ b o, b ≠ s.heap.objs.size → (s.heap.push { cls := .type "list", data := .seq ([] : List Value).toArray }).get? b = some o → g.get? b = some o :=
    fun b o hb e => by
      rw [← hg]
      exact (Heap.get?_update_other _ _ (Ne.symm hb)).trans ((Heap.get?_update_other _ _ (Ne.symm hb)).trans e)
  have gL : g.objs.size = s.heap.objs.size + 1 := by
    rw [← hg, Heap.size_after_update, Heap.size_after_update, Heap.size_push]
  have gT₃ : IsT g T items := oth T _ (Nat.ne_of_lt lT) (Heap.get?_push_of_some _ gT)
  have gm₃ : IsPm g m T 0 k bf nums := oth m _ (Nat.ne_of_lt lm) gm₁
  refine wpAny_pure ⟨plainId_quiet F.plain_extend_loop _, ?_⟩
  refine codeAny_builtin F.entry_extend_loop ?_
  rw [Around.under_plainId F.plain_extend_loop _]
  show wpAny _ A.in1 (pyNext (.ref m) >>= _) _ _ _
  refine wpAny_bind (pm_pyNext_first (s := { s with heap := g }) gT₃ gm₃ hk fun h' gm' gR hs' hkp => ?_)
  have gS' : h'.get? s.heap.objs.size = _ := hkp _ _ hSI hS₃
  have nm : g.objs.size ≠ m := by rw [gL]; exact Nat.ne_of_gt (Nat.lt_succ_of_lt lm)
  have lSg : s.heap.objs.size < g.objs.size := by rw [gL]; exact Nat.lt_succ_self _
  have nR : g.objs.size ≠ s.heap.objs.size := by rw [gL]; exact Nat.succ_ne_self _
  have kp : ∀ c o, c ≠ m → c ≠ s.heap.objs.size → g.get? c = some o → (h'.update s.heap.objs.size (Obj.mapSeq (·.push (.ref g.objs.size)))).get? c = some o := fun c o c1 c2 e => (Heap.get?_update_other _ _ (Ne.symm c2)).trans (hkp c o c1 e)
  show wpAny _ A.in1 (updateSeq s.heap.objs.size (·.push (.ref g.objs.size)) >>= _) _ _ _
  refine wpAny_bind ?_
  refine wpAny_updateSeq gS' rfl (wpAny_pure ⟨plainId_quiet F.plain_extend_loop _, pm_loop hh hk lm hTm (Nat.ne_of_lt lT) f nums rows [nums.take k] _ #[.ref g.objs.size] _ (.ref g.objs.size) hr hl ?_ ?_ (Heap.get?_update_self _ gS' rfl) ?_ ?_ ?_ fun h'' acc' c' hk'' gS'' ha'' nd'' => ?_⟩)
  · exact kp T _ hTm (Nat.ne_of_lt lT) gT₃
  · exact (Heap.get?_update_other _ _ (Nat.ne_of_gt lm)).trans gm'
  · exact .cons ⟨_, rfl, nm, lSg, (Heap.get?_update_other _ _ (Ne.symm nR)).trans gR⟩ .nil
  · simp
  · simp only [List.size_toArray, List.length_cons, List.length_nil]; omega
  · show wpAny _ A (load s.heap.objs.size >>= _) _ _ _
    refine wpAny_bind (wpAny_load gS'' ?_)
    refine wpAny_pure (hQ h'' acc'.toList (fun c o c1 e => ?_) ha'' nd'')
    have c2 : c ≠ s.heap.objs.size := Nat.ne_of_lt (Heap.lt_size e)
    exact hk'' c o c1 c2 (kp c o c1 c2 (oth c o c2 (Heap.get?_push_of_some _ e)))
theorem code_tuple_new_pm {m T : Addr} {items : List Value} {k f : Nat} {bf : Value} {nums : List Nat} {rows : List (List Nat)} {Q₁ : Value → Shared → Prop} (hh : A.handled = none) (hk : k ≤ 1000) (hTm : T ≠ m)
    (hr : runP items.length k f nums = some rows) (hl : nums.length ≤ 2000) (gT : IsT s.heap T items) (gm : IsPm s.heap m T 0 k bf nums) (hsz : rows.length ≤ 90000)
    (h : ∀ h' acc, (∀ c o, c ≠ m → s.heap.get? c = some o → h'.get? c = some o) → RowsAt h' items m s.heap.objs.size acc (nums.take k :: rows) → acc.Nodup → Q₁ (.ref h'.objs.size) { s with heap := h'.push { cls := .type "tuple", data := .seq acc.toArray } }) :
    codeAny (model prog w) A (.call (.builtin "tuple.__new__") ⟨[.type "tuple", .ref m], []⟩) (wants Q₁ E) s := by
  refine codeAny_of_tree ?_
  show wpAny _ A.in1 (do checkBuiltinCall "tuple.__new__" ⟨[.type "tuple", .ref m], []⟩; again (.builtin "tuple.__new__" ⟨[.type "tuple", .ref m], []⟩)) _ _ s
  refine wpAny_bind (wpAny_of_eq (F.newCall_tuple_1 _) (wpAny_pure ⟨plainId_quiet F.plain_tuple_new _, codeAny_builtin F.entry_tuple_new ?_⟩))
  rw [Around.under_plainId F.plain_tuple_new _]
  have hsub := sub_tuple_self
  have hinit := init_tuple_lookup
  have hmh := madeHere_tuple
  have hTI : s.TypeIs (.ref m) "itertools.permutations" := ⟨_, gm, rfl⟩
  have hh1 : A.in1.in1.handled = none := hh
  have lenR : ∀ {h' : Heap} {S : Addr} {vs : List Value} {rs : List (List Nat)}, RowsAt h' items m S vs rs → vs.length = rs.length := fun {h' S vs rs} z => by
    induction z with
    | nil => rfl
    | cons _ _ ih => rw [List.length_cons, List.length_cons, ih]
  wp_walk using wpAny_typeOf hTI, pm_collect (A := A.in1) hh1 hk hTm hr hl gT gm hsz
  intro h' acc hkp ha nd
  show wpAny _ _ (Builtin.Tuple.tupleExact acc.toArray >>= fun v => ret v) _ _ _
  unfold Builtin.Tuple.tupleExact
  refine wpAny_bind (wpAny_newObj_type ?_ (by show acc.toArray.size ≤ sizeLine; rw [List.size_toArray, lenR ha, List.length_cons, sizeLine_eq]; omega))
  refine wpAny_pure ?_
  exact h h' acc hkp ha nd
theorem call_tuple_pm {m T : Addr} {items : List Value} {k f : Nat} {bf : Value} {nums : List Nat} {rows : List (List Nat)} {Q : Value → Shared → Prop} (hh : A.handled = none) (hk : k ≤ 1000) (hTm : T ≠ m)
    (hr : runP items.length k f nums = some rows) (hl : nums.length ≤ 2000) (gT : IsT s.heap T items) (gm : IsPm s.heap m T 0 k bf nums) (hsz : rows.length ≤ 90000)
    (hQ : ∀ h' acc, (∀ c o, c ≠ m → s.heap.get? c = some o → h'.get? c = some o) → RowsAt h' items m s.heap.objs.size acc (nums.take k :: rows) → acc.Nodup → Q (.ref h'.objs.size) { s with heap := h'.push { cls := .type "tuple", data := .seq acc.toArray } }) :
    wpAny (model prog w) A (call (.type "tuple") [.ref m]) Q E s := by
  refine callType_codes (Q₁ := fun obj s₁ => s₁.TypeIs obj "tuple" ∧ Q obj s₁) F.called_tuple (F.typeCall_tuple_1 _) F.entry_object_init
    (code_tuple_new_pm (A := A.in1) hh hk hTm hr hl gT gm hsz fun h' acc a b c => ⟨⟨_, Heap.get?_push_size _ rfl, rfl⟩, hQ h' acc a b c⟩) fun obj s₁ h₁ => ?_
  exact ⟨h₁.1, F.args_object_init_2 obj _, object_init_meets F.called_tuple.init.lookup F.called_tuple.made (by decide) prog w A.in1 _ s₁ ⟨h₁.1, rfl, h₁.2⟩⟩
end
end Kp

namespace Kp
open PySem PySem.Spec PyProof.Rows L2
open Sem (wp)
/-- the heap is grown, what is tracked too -/
theorem Inv_more {X : Cx} {pins : List (Addr × Obj)} {σ : L2.St} {H H' : Hp} {s : Shared} {h' : Heap} {t' : Nat} (I : Inv X pins σ H s) (k : ∀ b u, s.heap.get? b = some u → h'.get? b = some u)
    (e1 : ∀ a, a < s.heap.objs.size → H' a = H a) (e2 : ∀ a o, s.heap.objs.size ≤ a → H' a = some o → ObjOk X.prog X.w H' h' a o) : Inv X pins σ H' { s with heap := h', toks := t' } := by
  have up : ∀ a o, H a = some o → H' a = some o := fun a o e => (e1 a (I.hok.lt e)).trans e
  refine I.un ⟨fun b u q _ _ _ => k b u q, fun b u q _ _ _ => ⟨u.slots, k b u q⟩, fun b u q n _ => (e1 b (Heap.lt_size q)).trans n, fun b u q _ => ⟨u, k b u q⟩, fun b xs q => up b _ q, fun b o u q => up b _ q, fun b ps q => ⟨#[], by rw [up b _ q]; simp⟩⟩ fun a o e => ?_
  by_cases ha : a < s.heap.objs.size
  · rw [e1 a ha] at e
    exact (I.hok a o e).stay (fun b u _ q => k b u q) (fun b q => up b _ q) fun b xs q => up b _ q
  · exact e2 a o (Nat.not_lt.mp ha) e
/-- several new objects -/
def upds (H : Hp) : List (Addr × HO) → Hp
  | [] => H
  | p :: r => upd (upds H r) p.1 p.2
theorem upds_not {H : Hp} {a : Addr} : ∀ {ps : List (Addr × HO)}, a ∉ ps.map (·.1) → upds H ps a = H a
  | [], _ => rfl
  | p :: r, h => by
    rw [List.map_cons, List.mem_cons, not_or] at h
    show upd _ _ _ _ = _
    rw [upd_ne h.1]
    exact upds_not h.2
theorem upds_mem {H : Hp} {a : Addr} {o : HO} : ∀ {ps : List (Addr × HO)}, a ∈ ps.map (·.1) → upds H ps a = some o → (a, o) ∈ ps
  | [], h, _ => by simp at h
  | p :: r, h, e => by
    by_cases ha : a = p.1
    · subst ha
      have e' : upd (upds H r) p.1 p.2 p.1 = some o := e
      rw [upd_same] at e'
      cases e'
      exact List.mem_cons_self
    · rw [List.map_cons, List.mem_cons] at h
      have e' : upd (upds H r) p.1 p.2 a = some o := e
      rw [upd_ne ha] at e'
      exact List.mem_cons_of_mem _ (upds_mem (h.resolve_left ha) e')
/-- the rows of 0 .. n - 1 in the machine's order -/
def IsPerms (n : Nat) (rows : List (List Nat)) : Prop := ∃ rest, rows = List.range n :: rest ∧ n ≤ 1000 ∧ runP n n 1000 (List.range n ++ (List.range n).map fun i => n - i) = some rest ∧ rest.length ≤ 90000 ∧ ∀ r ∈ rows, r.length ≤ 1000 ∧ ∀ i ∈ r, i < n
def rowV (a : Int) (r : List Nat) : List V := r.map fun i => V.int (a + (i : Nat))
def tTupPm (te : L2.St → Hp → (Int → Int → Hp → Prop) → Prop) : TE := fun σ H Q => te σ H fun a b H1 => RgOk a b ∧ ∃ rows, IsPerms (b - a).toNat rows ∧ ∀ (as : List Addr) p, as.length = rows.length → as.Nodup → (∀ x ∈ as, H1 x = none) → p ∉ as → H1 p = none →
  Q (.ref p) (upd (upds H1 (as.zip (rows.map fun r => HO.tup (rowV a r)))) p (.tup (as.map V.ref)))
theorem rowsAt_as {h : Heap} {items : List Value} {m S : Addr} : ∀ {vs rows}, RowsAt h items m S vs rows → ∃ as : List Addr, vs = as.map Value.ref ∧ as.length = rows.length ∧ ∀ x ∈ as, S < x
  | _, _, .nil => ⟨[], rfl, rfl, by simp⟩
  | _, _, .cons ⟨a, e, _, n2, _⟩ r => by
    obtain ⟨as, rfl, hl, hm⟩ := rowsAt_as r
    refine ⟨a :: as, by rw [e]; rfl, by rw [List.length_cons, List.length_cons, hl], fun x hx => ?_⟩
    rcases List.mem_cons.mp hx with rfl | hx
    · exact n2
    · exact hm x hx
theorem vals_row {items : List Value} {a : Int} {n : Nat} (hv : Vals ((List.range n).map fun (i : Nat) => V.int (a + (i : Nat))) items) : ∀ (r : List Nat), (∀ i ∈ r, i < n) → Vals (rowV a r) (r.map fun i => items.toArray.getD i .none)
  | [], _ => .nil
  | i :: r, h => by
    refine .cons ?_ (vals_row hv r fun j hj => h j (List.mem_cons_of_mem _ hj))
    obtain ⟨u, e, ru⟩ := hv.get (i := i) (x := V.int (a + (i : Nat))) (by rw [List.getElem?_map, List.getElem?_range (h i List.mem_cons_self)]; rfl)
    have : items.toArray.getD i .none = u := by
      rw [Array.getD_eq_getD_getElem?]
      simp [e]
    show L2.RelV (V.int (a + (i : Nat))) (items.toArray.getD i .none)
    rw [this]
    exact ru
theorem rowsAt_ok {X : Cx} {h : Heap} {items : List Value} {m S : Addr} {a : Int} {n : Nat} {H' : Hp} (hv : Vals ((List.range n).map fun (i : Nat) => V.int (a + (i : Nat))) items) : ∀ {as : List Addr} {rows : List (List Nat)}, RowsAt h items m S (as.map Value.ref) rows → (∀ r ∈ rows, r.length ≤ 1000 ∧ ∀ i ∈ r, i < n) →
    ∀ x o, (x, o) ∈ as.zip (rows.map fun r => HO.tup (rowV a r)) → ObjOk X.prog X.w H' h x o
  | [], _, _, _, x, o, hm => by simp at hm
  | y :: as, _, .cons (row := row) (rows := rows) ⟨b, e, _, _, g⟩ r, hr, x, o, hm => by
    cases e
    rw [List.map_cons, List.zip_cons_cons] at hm
    rcases List.mem_cons.mp hm with hm | hm
    · cases hm
      have := hr row List.mem_cons_self
      exact ⟨by unfold rowV; rw [List.length_map, sizeLine_eq]; omega, _, vals_row hv row this.2, ⟨_, g, rfl, _, rfl⟩⟩
    · exact rowsAt_ok hv r (fun z hz => hr z (List.mem_cons_of_mem _ hz)) x o hm
theorem vals_refs : ∀ as : List Addr, Vals (as.map V.ref) (as.map Value.ref)
  | [] => .nil
  | a :: r => .cons rfl (vals_refs r)
section
variable {X : Cx} {e : Expr} {te : L2.St → Hp → (Int → Int → Hp → Prop) → Prop}
theorem pe_tupPm {p pos q qpos : Pos} (hc : X.calm = true) (hg : Gl X "tuple") (hm : X.mg "tuple" = none) (gp : Gl X "permutations") (mp : X.mg "permutations" = some (.type "itertools.permutations")) (he : PRg X e te)
    (ni : starEach [e] X.env = (false, eval e X.env) :: starEach [] X.env := by rfl) (na : starEach [.Call (.Name "permutations" q) [e] [] qpos] X.env = (false, eval (.Call (.Name "permutations" q) [e] [] qpos) X.env) :: starEach [] X.env := by rfl) :
    PE X (.Call (.Name "tuple" p) [.Call (.Name "permutations" q) [e] [] qpos] [] pos) (tTupPm te) := by
  refine ⟨fun pins s σ H Q I h => ?_⟩
  refine Call_ (ld_blt I hg hm boot_tuple (PyProof.Rows.callWith_type1 (args_cons ?_ na) na))
  refine Call_ (ld_glob I gp mp (PyProof.Rows.callWith_type1 (args_cons (thn (he pins s σ H _ I h) fun x s1 ⟨r, a, b, t, u, v, H1, ex, hr, I1, ok, rows, hp, hQ⟩ => args_nil ?_) ni) ni))
  subst ex
  obtain ⟨b1, b2, b3, b4, b5⟩ := ok
  obtain ⟨rest, hrows, hn, hrun, hsz, hall⟩ := hp
  have hcalm := I1.ok.hd hc
  refine call_pm (collect_range (n := (b - a).toNat) hcalm hr (small_one b1 b2 b3 b4) (rangeSize_nat a b) (by omega) fun h1 tk acc hk1 hi => ?_)
  have hlen : acc.toList.length = (b - a).toNat := by rw [Array.length_toList]; exact hi.1
  refine ⟨by rw [hlen]; exact hn, fun h2 gT gm hs2 hk2 => args_nil ?_⟩
  rw [hlen] at gm
  have hvals : Vals ((List.range (b - a).toNat).map fun (i : Nat) => V.int (a + (i : Nat))) acc.toList := vals_rg hi
  refine call_tuple_pm (f := 1000) (rows := rest) (items := acc.toList) (k := (b - a).toNat) hcalm hn (Nat.ne_of_lt (Nat.lt_succ_self _)) (by rw [hlen]; exact hrun) (by rw [List.length_append, List.length_map, List.length_range]; omega) gT gm hsz fun h3 vs hk3 hra nd => ?_
  obtain ⟨as, rfl, hal, has⟩ := rowsAt_as hra
  have ks : ∀ c o, h1.get? c = some o → h3.get? c = some o := fun c o e => hk3 c o (Nat.ne_of_lt (Nat.lt_succ_of_lt (Heap.lt_size e))) (hk2 c o e)
  have I2 : L2.Inv X pins σ H1 { s1 with heap := h1, toks := tk } := I1.kept hk1
  have I2k : L2.Inv X pins σ H1 { s1 with heap := h3, toks := tk } := I2.kept (t' := tk) ks
  have big : ∀ x ∈ as, h1.objs.size ≤ x := fun x hx => by
    have y := has x hx
    have y' : h2.objs.size < x := y
    rw [hs2] at y'
    exact Nat.le_of_lt (Nat.lt_trans (Nat.lt_of_lt_of_le (Nat.lt_succ_self _) (Nat.le_succ _)) y')
  have hz : (as.zip (rows.map fun r => HO.tup (rowV a r))).map (·.1) = as := by
    rw [List.map_fst_zip]
    rw [hrows, List.length_map, hal]
    simp
  have I3 : L2.Inv X pins σ (upds H1 (as.zip (rows.map fun r => HO.tup (rowV a r)))) { s1 with heap := h3, toks := tk } := Inv_more (s := { s1 with heap := h1, toks := tk }) (h' := h3) (t' := tk) I2 ks (fun c hc' => upds_not (by
      rw [hz]
      exact fun hm' => absurd hc' (Nat.not_lt.mpr (big c hm')))) fun c o hc' e' => by
    by_cases hm' : c ∈ as
    · refine rowsAt_ok hvals hra ?_ c o ?_
      · have q := hall
        rw [hrows] at q
        intro r' hr'
        refine q r' ?_
        rw [show (List.range (b - a).toNat ++ (List.range (b - a).toNat).map fun i => (b - a).toNat - i).take (b - a).toNat = List.range (b - a).toNat from List.take_left' (List.length_range ..)] at hr'
        exact hr'
      · have q := upds_mem (by rw [hz]; exact hm') e'
        rw [hrows] at q
        rw [show (List.range (b - a).toNat ++ (List.range (b - a).toNat).map fun i => (b - a).toNat - i).take (b - a).toNat = List.range (b - a).toNat from List.take_left' (List.length_range ..)]
        exact q
    · have e2 : upds H1 (as.zip (rows.map fun r => HO.tup (rowV a r))) c = H1 c := upds_not (by rw [hz]; exact hm')
      rw [e2, I2.hok.fresh hc'] at e'
      cases e'
  have hp1 : h3.objs.size ∉ as := fun hm' => hra.fresh (Nat.le_refl _) (List.mem_map.mpr ⟨_, hm', rfl⟩)
  have nd' : as.Nodup := by
    have := nd
    rw [List.nodup_iff_pairwise_ne, List.pairwise_map] at this
    exact this.imp fun z e => z (by rw [e])
  have hal' : as.length = rows.length := by rw [hrows, hal]; simp
  refine ⟨.ref h3.objs.size, upd (upds H1 (as.zip (rows.map fun r => HO.tup (rowV a r)))) h3.objs.size (.tup (as.map V.ref)), I3.laid (t' := tk) (fun c o e => Heap.get?_push_of_some _ e) (Nat.le_refl _) (show ObjOk X.prog X.w _ _ _ (.tup (as.map V.ref)) from ⟨?_, as.map Value.ref, vals_refs as, IsTup.new _ _⟩), rfl, hQ as _ hal' nd' (fun x hx => I2.hok.fresh (big x hx)) hp1 (I2k.hok.fresh (Nat.le_refl _))⟩
  rw [List.length_map, hal', hrows, List.length_cons, sizeLine_eq]
  omega
end
end Kp

namespace Ka
open PySem PySem.Spec PyProof.Rows L2 Evl Kp
section
variable {K : PySem.W.Frag}
theorem upds_news {W : Wd} {H : Hp} (a : Int) : ∀ (as : List Addr) (rows : List (List Nat)), as.length = rows.length → as.Nodup → (∀ x ∈ as, H x = none) → W.inv H →
    W.inv (upds H (as.zip (rows.map fun r => HO.tup (rowV a r)))) ∧ Ex (W.view H) (W.view (upds H (as.zip (rows.map fun r => HO.tup (rowV a r))))) ∧ Dqs K (W.view (upds H (as.zip (rows.map fun r => HO.tup (rowV a r))))) (as.map V.ref) (rows.map fun r => PyData.tuple ((r.map fun (i : Nat) => a + (i : Nat)).map PyData.int))
  | [], [], _, _, _, i => ⟨i, Ex.refl _, .nil⟩
  | [], _ :: _, h, _, _, _ => by simp at h
  | _ :: _, [], h, _, _, _ => by simp at h
  | x :: as, r :: rows, h, nd, hf, i => by
    rw [List.nodup_cons] at nd
    obtain ⟨i1, e1, d1⟩ := upds_news a as rows (by simpa using h) nd.2 (fun y hy => hf y (List.mem_cons_of_mem _ hy)) i
    have hx : upds H (as.zip (rows.map fun r => HO.tup (rowV a r))) x = none := by
      rw [upds_not]
      · exact hf x List.mem_cons_self
      · rw [List.map_fst_zip]
        · exact nd.1
        · rw [List.length_map]; simp at h; omega
    have e2 : rowV a r = (r.map fun (i : Nat) => a + (i : Nat)).map V.int := by
      unfold rowV
      rw [List.map_map]
      rfl
    have x2 := Wd.view_ex (W := W) (Ex.new (o := HO.tup (rowV a r)) hx)
    refine ⟨Wd.inv_new i1 hx, e1.trans x2, .cons ?_ (d1.mono x2)⟩
    show Dq K (W.view (upd _ x (.tup (rowV a r)))) (.ref x) _
    rw [e2]
    exact Dq.newT i1 hx (Dqs.ints _)
variable {W : Wd} {Δ : DEnv} {ta tb : TE}
/-- tuple(permutations(range(i, j))) -/
theorem de_tupPm {P : DV → Prop} (h : DE K W Δ ta fun a => ∃ i, a = .dat (.int i) ∧ DE K W Δ tb fun b => ∃ j, b = .dat (.int j) ∧ RgOk i j ∧ ∃ rows, IsPerms (j - i).toNat rows ∧ P (.dat (.tuple (rows.map fun r => PyData.tuple ((r.map fun (k : Nat) => i + (k : Nat)).map PyData.int))))) : DE K W Δ (tTupPm (tRg2 ta tb)) P := fun σ H v i Q q =>
  h σ H v i _ fun x H1 e i1 x1 p1 r1 => by
    obtain ⟨a, rfl, p1⟩ := p1
    cases r1
    refine p1 σ H1 (v.mono x1) i1 _ fun y H2 e2 i2 x2 p2 r2 => ?_
    obtain ⟨b, rfl, hr, rows, hp, k⟩ := p2
    cases r2
    refine ⟨a, b, rfl, rfl, hr, rows, hp, fun as p hl nd hf hpn hp0 => ?_⟩
    obtain ⟨j1, y1, d1⟩ := upds_news (K := K) (W := W) (H := H2) a as rows hl nd hf i2
    have hp' : upds H2 (as.zip (rows.map fun r => HO.tup (rowV a r))) p = none := by
      rw [upds_not]
      · exact hp0
      · rw [List.map_fst_zip]
        · exact hpn
        · rw [List.length_map]; omega
    exact q _ _ _ (Wd.inv_new j1 hp') (((x1.trans x2).trans y1).trans (Wd.view_ex (Ex.new hp'))) k (Dq.newT j1 hp' d1)
end
end Ka


namespace Law
open PySem PySem.Spec PyProof.Rows L2 Evl Ka
def topS (i : Nat) : Stmt := PySem.Challenge.pw_keptarcs_k30_whole_classes_by_plain_sear.main.body.getD i (.Pass ⟨0, 0, 0, 0⟩)
abbrev s_is_number : Stmt := topS 7
abbrev N_is_number : List Str := ["thing"]
theorem sc_is_number : FnScope N_is_number ["thing"] (defScope s_is_number) := ⟨rfl, rfl, rfl, by decide +kernel, rfl, by decide +kernel, by decide +kernel⟩
abbrev s_is_number_from : Stmt := topS 8
abbrev N_is_number_from : List Str := ["thing", "low", "high"]
theorem sc_is_number_from : FnScope N_is_number_from ["thing", "low", "high"] (defScope s_is_number_from) := ⟨rfl, rfl, rfl, by decide +kernel, rfl, by decide +kernel, by decide +kernel⟩
abbrev s_are_numbers : Stmt := topS 9
abbrev N_are_numbers : List Str := ["thing", "part"]
theorem sc_are_numbers : FnScope N_are_numbers ["thing"] (defScope s_are_numbers) := ⟨rfl, rfl, rfl, by decide +kernel, rfl, by decide +kernel, by decide +kernel⟩
abbrev s_are_ascending_numbers : Stmt := topS 10
abbrev N_are_ascending_numbers : List Str := ["thing"]
theorem sc_are_ascending_numbers : FnScope N_are_ascending_numbers ["thing"] (defScope s_are_ascending_numbers) := ⟨rfl, rfl, rfl, by decide +kernel, rfl, by decide +kernel, by decide +kernel⟩
abbrev s_is_row : Stmt := topS 12
abbrev N_is_row : List Str := ["n", "thing"]
theorem sc_is_row : FnScope N_is_row ["n", "thing"] (defScope s_is_row) := ⟨rfl, rfl, rfl, by decide +kernel, rfl, by decide +kernel, by decide +kernel⟩
abbrev s_check_row : Stmt := topS 13
abbrev N_check_row : List Str := ["n", "row"]
theorem sc_check_row : FnScope N_check_row ["n", "row"] (defScope s_check_row) := ⟨rfl, rfl, rfl, by decide +kernel, rfl, by decide +kernel, by decide +kernel⟩
abbrev s_check_place : Stmt := topS 14
abbrev N_check_place : List Str := ["n", "i"]
theorem sc_check_place : FnScope N_check_place ["n", "i"] (defScope s_check_place) := ⟨rfl, rfl, rfl, by decide +kernel, rfl, by decide +kernel, by decide +kernel⟩
abbrev s_turned_pairs : Stmt := topS 15
abbrev N_turned_pairs : List Str := ["n", "row", "pairs", "i", "high", "low"]
theorem sc_turned_pairs : FnScope N_turned_pairs ["n", "row"] (defScope s_turned_pairs) := ⟨rfl, rfl, rfl, by decide +kernel, rfl, by decide +kernel, by decide +kernel⟩
abbrev s_mirror : Stmt := topS 16
abbrev N_mirror : List Str := ["n", "row"]
theorem sc_mirror : FnScope N_mirror ["n", "row"] (defScope s_mirror) := ⟨rfl, rfl, rfl, by decide +kernel, rfl, by decide +kernel, by decide +kernel⟩
abbrev s_exchanged : Stmt := topS 17
abbrev N_exchanged : List Str := ["n", "row", "i"]
theorem sc_exchanged : FnScope N_exchanged ["n", "row", "i"] (defScope s_exchanged) := ⟨rfl, rfl, rfl, by decide +kernel, rfl, by decide +kernel, by decide +kernel⟩
abbrev s_row_turning : Stmt := topS 18
abbrev N_row_turning : List Str := ["n", "turned", "places", "p", "lesser", "greater", "a", "b", "place"]
theorem sc_row_turning : FnScope N_row_turning ["n", "turned"] (defScope s_row_turning) := ⟨rfl, rfl, rfl, by decide +kernel, rfl, by decide +kernel, by decide +kernel⟩
abbrev s_pairs_only_in : Stmt := topS 19
abbrev N_pairs_only_in : List Str := ["pairs", "others", "known", "pair"]
theorem sc_pairs_only_in : FnScope N_pairs_only_in ["pairs", "others"] (defScope s_pairs_only_in) := ⟨rfl, rfl, rfl, by decide +kernel, rfl, by decide +kernel, by decide +kernel⟩
abbrev s_pairs_not_below : Stmt := topS 20
abbrev N_pairs_not_below : List Str := ["n", "one", "other", "first", "second"]
theorem sc_pairs_not_below : FnScope N_pairs_not_below ["n", "one", "other"] (defScope s_pairs_not_below) := ⟨rfl, rfl, rfl, by decide +kernel, rfl, by decide +kernel, by decide +kernel⟩
abbrev s_is_below : Stmt := topS 21
abbrev N_is_below : List Str := ["n", "one", "other"]
theorem sc_is_below : FnScope N_is_below ["n", "one", "other"] (defScope s_is_below) := ⟨rfl, rfl, rfl, by decide +kernel, rfl, by decide +kernel, by decide +kernel⟩
abbrev s_chained : Stmt := topS 22
abbrev N_chained : List Str := ["n", "pairs", "turned", "b", "lesser", "greater", "a", "c", "pair"]
theorem sc_chained : FnScope N_chained ["n", "pairs"] (defScope s_chained) := ⟨rfl, rfl, rfl, by decide +kernel, rfl, by decide +kernel, by decide +kernel⟩
abbrev s_least_above : Stmt := topS 23
abbrev N_least_above : List Str := ["n", "one", "other", "pairs"]
theorem sc_least_above : FnScope N_least_above ["n", "one", "other"] (defScope s_least_above) := ⟨rfl, rfl, rfl, by decide +kernel, rfl, by decide +kernel, by decide +kernel⟩
abbrev s_greatest_below : Stmt := topS 24
abbrev N_greatest_below : List Str := ["n", "one", "other"]
theorem sc_greatest_below : FnScope N_greatest_below ["n", "one", "other"] (defScope s_greatest_below) := ⟨rfl, rfl, rfl, by decide +kernel, rfl, by decide +kernel, by decide +kernel⟩
abbrev s_all_rows : Stmt := topS 25
abbrev N_all_rows : List Str := ["n"]
theorem sc_all_rows : FnScope N_all_rows ["n"] (defScope s_all_rows) := ⟨rfl, rfl, rfl, by decide +kernel, rfl, by decide +kernel, by decide +kernel⟩
abbrev s_is_arc : Stmt := topS 27
abbrev N_is_arc : List Str := ["n", "thing", "a", "b", "ahead", "p"]
theorem sc_is_arc : FnScope N_is_arc ["n", "thing"] (defScope s_is_arc) := ⟨rfl, rfl, rfl, by decide +kernel, rfl, by decide +kernel, by decide +kernel⟩
abbrev s_arc_at : Stmt := topS 28
abbrev N_arc_at : List Str := ["n", "row", "i", "a", "b", "ahead", "p"]
theorem sc_arc_at : FnScope N_arc_at ["n", "row", "i"] (defScope s_arc_at) := ⟨rfl, rfl, rfl, by decide +kernel, rfl, by decide +kernel, by decide +kernel⟩
abbrev s_narrowed : Stmt := topS 29
abbrev N_narrowed : List Str := ["arc", "c", "d", "p"]
theorem sc_narrowed : FnScope N_narrowed ["arc", "c", "d"] (defScope s_narrowed) := ⟨rfl, rfl, rfl, by decide +kernel, rfl, by decide +kernel, by decide +kernel⟩
abbrev s_are_arcs : Stmt := topS 31
abbrev N_are_arcs : List Str := ["n", "thing", "arc"]
theorem sc_are_arcs : FnScope N_are_arcs ["n", "thing"] (defScope s_are_arcs) := ⟨rfl, rfl, rfl, by decide +kernel, rfl, by decide +kernel, by decide +kernel⟩
abbrev s_are_ascending_arcs : Stmt := topS 33
abbrev N_are_ascending_arcs : List Str := ["n", "thing"]
theorem sc_are_ascending_arcs : FnScope N_are_ascending_arcs ["n", "thing"] (defScope s_are_ascending_arcs) := ⟨rfl, rfl, rfl, by decide +kernel, rfl, by decide +kernel, by decide +kernel⟩
abbrev s_shortened : Stmt := topS 34
abbrev N_shortened : List Str := ["arc", "a", "b", "_"]
theorem sc_shortened : FnScope N_shortened ["arc"] (defScope s_shortened) := ⟨rfl, rfl, rfl, by decide +kernel, rfl, by decide +kernel, by decide +kernel⟩
abbrev s_lacking_pairs : Stmt := topS 35
abbrev N_lacking_pairs : List Str := ["arcs", "known", "one", "other"]
theorem sc_lacking_pairs : FnScope N_lacking_pairs ["arcs"] (defScope s_lacking_pairs) := ⟨rfl, rfl, rfl, by decide +kernel, rfl, by decide +kernel, by decide +kernel⟩
abbrev s_is_rule : Stmt := topS 36
abbrev N_is_rule : List Str := ["n", "thing"]
theorem sc_is_rule : FnScope N_is_rule ["n", "thing"] (defScope s_is_rule) := ⟨rfl, rfl, rfl, by decide +kernel, rfl, by decide +kernel, by decide +kernel⟩
abbrev s_check_rule : Stmt := topS 37
abbrev N_check_rule : List Str := ["n", "rule"]
theorem sc_check_rule : FnScope N_check_rule ["n", "rule"] (defScope s_check_rule) := ⟨rfl, rfl, rfl, by decide +kernel, rfl, by decide +kernel, by decide +kernel⟩
abbrev s_rows_along : Stmt := topS 39
abbrev N_rows_along : List Str := ["n", "row", "steps", "found", "i"]
theorem sc_rows_along : FnScope N_rows_along ["n", "row", "steps"] (defScope s_rows_along) := ⟨rfl, rfl, rfl, by decide +kernel, rfl, by decide +kernel, by decide +kernel⟩
abbrev s_check_rule_and_rows : Stmt := topS 41
abbrev N_check_rule_and_rows : List Str := ["n", "rule", "rows", "row"]
theorem sc_check_rule_and_rows : FnScope N_check_rule_and_rows ["n", "rule", "rows"] (defScope s_check_rule_and_rows) := ⟨rfl, rfl, rfl, by decide +kernel, rfl, by decide +kernel, by decide +kernel⟩
abbrev s_blind_falls : Stmt := topS 42
abbrev N_blind_falls : List Str := ["n", "rule", "row", "i"]
theorem sc_blind_falls : FnScope N_blind_falls ["n", "rule", "row"] (defScope s_blind_falls) := ⟨rfl, rfl, rfl, by decide +kernel, rfl, by decide +kernel, by decide +kernel⟩
abbrev s_blind_rises : Stmt := topS 43
abbrev N_blind_rises : List Str := ["n", "rule", "row", "i"]
theorem sc_blind_rises : FnScope N_blind_rises ["n", "rule", "row"] (defScope s_blind_rises) := ⟨rfl, rfl, rfl, by decide +kernel, rfl, by decide +kernel, by decide +kernel⟩
abbrev s_way_to_first : Stmt := topS 44
abbrev N_way_to_first : List Str := ["n", "rule", "row", "steps", "falls"]
theorem sc_way_to_first : FnScope N_way_to_first ["n", "rule", "row"] (defScope s_way_to_first) := ⟨rfl, rfl, rfl, by decide +kernel, rfl, by decide +kernel, by decide +kernel⟩
abbrev s_first_in_class : Stmt := topS 45
abbrev N_first_in_class : List Str := ["n", "rule", "row"]
theorem sc_first_in_class : FnScope N_first_in_class ["n", "rule", "row"] (defScope s_first_in_class) := ⟨rfl, rfl, rfl, by decide +kernel, rfl, by decide +kernel, by decide +kernel⟩
abbrev s_last_in_class : Stmt := topS 46
abbrev N_last_in_class : List Str := ["n", "rule", "row", "rises"]
theorem sc_last_in_class : FnScope N_last_in_class ["n", "rule", "row"] (defScope s_last_in_class) := ⟨rfl, rfl, rfl, by decide +kernel, rfl, by decide +kernel, by decide +kernel⟩
abbrev s_first_row : Stmt := topS 47
abbrev N_first_row : List Str := ["n", "rule", "row"]
theorem sc_first_row : FnScope N_first_row ["n", "rule", "row"] (defScope s_first_row) := ⟨rfl, rfl, rfl, by decide +kernel, rfl, by decide +kernel, by decide +kernel⟩
abbrev s_last_row : Stmt := topS 48
abbrev N_last_row : List Str := ["n", "rule", "row"]
theorem sc_last_row : FnScope N_last_row ["n", "rule", "row"] (defScope s_last_row) := ⟨rfl, rfl, rfl, by decide +kernel, rfl, by decide +kernel, by decide +kernel⟩
abbrev s_are_one : Stmt := topS 49
abbrev N_are_one : List Str := ["n", "rule", "one", "other"]
theorem sc_are_one : FnScope N_are_one ["n", "rule", "one", "other"] (defScope s_are_one) := ⟨rfl, rfl, rfl, by decide +kernel, rfl, by decide +kernel, by decide +kernel⟩
abbrev s_class_of : Stmt := topS 50
abbrev N_class_of : List Str := ["n", "rule", "row", "low", "high", "some"]
theorem sc_class_of : FnScope N_class_of ["n", "rule", "row"] (defScope s_class_of) := ⟨rfl, rfl, rfl, by decide +kernel, rfl, by decide +kernel, by decide +kernel⟩
abbrev s__law_deck : Stmt := topS 52
abbrev N__law_deck : List Str := ["script", "mixed", "cell"]
theorem sc__law_deck : FnScope N__law_deck ["script"] (defScope s__law_deck) := ⟨rfl, rfl, rfl, by decide +kernel, rfl, by decide +kernel, by decide +kernel⟩
abbrev s__law_draw : Stmt := topS 53
abbrev N__law_draw : List Str := ["deck", "below", "figure", "cell"]
theorem sc__law_draw : FnScope N__law_draw ["deck", "below"] (defScope s__law_draw) := ⟨rfl, rfl, rfl, by decide +kernel, rfl, by decide +kernel, by decide +kernel⟩
abbrev s__law_pick : Stmt := topS 54
abbrev N__law_pick : List Str := ["deck", "some"]
theorem sc__law_pick : FnScope N__law_pick ["deck", "some"] (defScope s__law_pick) := ⟨rfl, rfl, rfl, by decide +kernel, rfl, by decide +kernel, by decide +kernel⟩
abbrev s__law_shuffled : Stmt := topS 55
abbrev N__law_shuffled : List Str := ["deck", "some", "left", "found", "go"]
theorem sc__law_shuffled : FnScope N__law_shuffled ["deck", "some"] (defScope s__law_shuffled) := ⟨rfl, rfl, rfl, by decide +kernel, rfl, by decide +kernel, by decide +kernel⟩
abbrev s__law_row : Stmt := topS 56
abbrev N__law_row : List Str := ["deck", "n", "way", "row", "go", "i"]
theorem sc__law_row : FnScope N__law_row ["deck", "n"] (defScope s__law_row) := ⟨rfl, rfl, rfl, by decide +kernel, rfl, by decide +kernel, by decide +kernel⟩
abbrev s__law_arc : Stmt := topS 57
abbrev N__law_arc : List Str := ["deck", "n", "a", "b", "p"]
theorem sc__law_arc : FnScope N__law_arc ["deck", "n"] (defScope s__law_arc) := ⟨rfl, rfl, rfl, by decide +kernel, rfl, by decide +kernel, by decide +kernel⟩
abbrev s__law_arcs : Stmt := topS 58
abbrev N__law_arcs : List Str := ["n", "found", "a", "b", "lots", "p", "lot"]
theorem sc__law_arcs : FnScope N__law_arcs ["n"] (defScope s__law_arcs) := ⟨rfl, rfl, rfl, by decide +kernel, rfl, by decide +kernel, by decide +kernel⟩
abbrev s__law_lies : Stmt := topS 59
abbrev N__law_lies : List Str := ["one", "other", "c", "d", "some", "a", "b", "ahead", "p"]
theorem sc__law_lies : FnScope N__law_lies ["one", "other"] (defScope s__law_lies) := ⟨rfl, rfl, rfl, by decide +kernel, rfl, by decide +kernel, by decide +kernel⟩
abbrev s__law_within : Stmt := topS 60
abbrev N__law_within : List Str := ["arc", "a", "b", "ahead", "found", "c", "d", "p"]
theorem sc__law_within : FnScope N__law_within ["arc"] (defScope s__law_within) := ⟨rfl, rfl, rfl, by decide +kernel, rfl, by decide +kernel, by decide +kernel⟩
abbrev s__law_widest : Stmt := topS 61
abbrev N__law_widest : List Str := ["n", "arcs", "arc", "one"]
theorem sc__law_widest : FnScope N__law_widest ["n", "arcs"] (defScope s__law_widest) := ⟨rfl, rfl, rfl, by decide +kernel, rfl, by decide +kernel, by decide +kernel⟩
abbrev s__law_closed : Stmt := topS 62
abbrev N__law_closed : List Str := ["arcs", "found", "arc", "one"]
theorem sc__law_closed : FnScope N__law_closed ["arcs"] (defScope s__law_closed) := ⟨rfl, rfl, rfl, by decide +kernel, rfl, by decide +kernel, by decide +kernel⟩
abbrev s__law_marked : Stmt := topS 63
abbrev N__law_marked : List Str := ["n", "marks", "found", "a", "b", "ahead", "wrong", "p"]
theorem sc__law_marked : FnScope N__law_marked ["n", "marks"] (defScope s__law_marked) := ⟨rfl, rfl, rfl, by decide +kernel, rfl, by decide +kernel, by decide +kernel⟩
abbrev s__law_rule : Stmt := topS 64
abbrev N__law_rule : List Str := ["deck", "n", "way", "row", "i", "go", "p"]
theorem sc__law_rule : FnScope N__law_rule ["deck", "n"] (defScope s__law_rule) := ⟨rfl, rfl, rfl, by decide +kernel, rfl, by decide +kernel, by decide +kernel⟩
abbrev s__law_arc_at : Stmt := topS 65
abbrev N__law_arc_at : List Str := ["row", "i", "a", "b", "p"]
theorem sc__law_arc_at : FnScope N__law_arc_at ["row", "i"] (defScope s__law_arc_at) := ⟨rfl, rfl, rfl, by decide +kernel, rfl, by decide +kernel, by decide +kernel⟩
abbrev s__law_exchanged : Stmt := topS 66
abbrev N__law_exchanged : List Str := ["row", "i"]
theorem sc__law_exchanged : FnScope N__law_exchanged ["row", "i"] (defScope s__law_exchanged) := ⟨rfl, rfl, rfl, by decide +kernel, rfl, by decide +kernel, by decide +kernel⟩
abbrev s__law_known : Stmt := topS 67
abbrev N__law_known : List Str := ["rule", "found", "arc"]
theorem sc__law_known : FnScope N__law_known ["rule"] (defScope s__law_known) := ⟨rfl, rfl, rfl, by decide +kernel, rfl, by decide +kernel, by decide +kernel⟩
abbrev s__law_blind : Stmt := topS 68
abbrev N__law_blind : List Str := ["known", "row", "i"]
theorem sc__law_blind : FnScope N__law_blind ["known", "row"] (defScope s__law_blind) := ⟨rfl, rfl, rfl, by decide +kernel, rfl, by decide +kernel, by decide +kernel⟩
abbrev s__law_class : Stmt := topS 69
abbrev N__law_class : List Str := ["known", "row", "found", "edge", "go", "later", "one", "i", "other"]
theorem sc__law_class : FnScope N__law_class ["known", "row"] (defScope s__law_class) := ⟨rfl, rfl, rfl, by decide +kernel, rfl, by decide +kernel, by decide +kernel⟩
abbrev s__law_is_class_right : Stmt := topS 70
abbrev N__law_is_class_right : List Str := ["deck", "n", "rule", "row", "due", "one", "other", "first", "last", "it"]
theorem sc__law_is_class_right : FnScope N__law_is_class_right ["deck", "n", "rule", "row", "due"] (defScope s__law_is_class_right) := ⟨rfl, rfl, rfl, by decide +kernel, rfl, by decide +kernel, by decide +kernel⟩
abbrev s_law : Stmt := topS 71
abbrev N_law : List Str := ["script", "deck", "go", "n", "rule", "row", "known", "due", "told", "some", "near", "far", "i", "it"]
theorem sc_law : FnScope N_law ["script"] (defScope s_law) := ⟨rfl, rfl, rfl, by decide +kernel, rfl, by decide +kernel, by decide +kernel⟩
set_option maxHeartbeats 0 in
set_option genInjectivity false in
set_option genSizeOf false in
/-- what the top has left -/
structure Tx (K : PySem.W.Frag) (mg : Str → Option Value) where
  f_is_number : Addr
  d_is_number : FuncData
  F_is_number : Fun K "is_number" "is_number" s_is_number f_is_number d_is_number
  b_is_number : Binds K d_is_number ["thing"] []
  g_is_number : mg "is_number" = some (.ref f_is_number)
  f_is_number_from : Addr
  d_is_number_from : FuncData
  F_is_number_from : Fun K "is_number_from" "is_number_from" s_is_number_from f_is_number_from d_is_number_from
  b_is_number_from : Binds K d_is_number_from ["thing", "low", "high"] []
  g_is_number_from : mg "is_number_from" = some (.ref f_is_number_from)
  f_are_numbers : Addr
  d_are_numbers : FuncData
  F_are_numbers : Fun K "are_numbers" "are_numbers" s_are_numbers f_are_numbers d_are_numbers
  b_are_numbers : Binds K d_are_numbers ["thing"] []
  g_are_numbers : mg "are_numbers" = some (.ref f_are_numbers)
  f_are_ascending_numbers : Addr
  d_are_ascending_numbers : FuncData
  F_are_ascending_numbers : Fun K "are_ascending_numbers" "are_ascending_numbers" s_are_ascending_numbers f_are_ascending_numbers d_are_ascending_numbers
  b_are_ascending_numbers : Binds K d_are_ascending_numbers ["thing"] []
  g_are_ascending_numbers : mg "are_ascending_numbers" = some (.ref f_are_ascending_numbers)
  f_is_row : Addr
  d_is_row : FuncData
  F_is_row : Fun K "is_row" "is_row" s_is_row f_is_row d_is_row
  b_is_row : Binds K d_is_row ["n", "thing"] []
  g_is_row : mg "is_row" = some (.ref f_is_row)
  f_check_row : Addr
  d_check_row : FuncData
  F_check_row : Fun K "check_row" "check_row" s_check_row f_check_row d_check_row
  b_check_row : Binds K d_check_row ["n", "row"] []
  g_check_row : mg "check_row" = some (.ref f_check_row)
  f_check_place : Addr
  d_check_place : FuncData
  F_check_place : Fun K "check_place" "check_place" s_check_place f_check_place d_check_place
  b_check_place : Binds K d_check_place ["n", "i"] []
  g_check_place : mg "check_place" = some (.ref f_check_place)
  f_turned_pairs : Addr
  d_turned_pairs : FuncData
  F_turned_pairs : Fun K "turned_pairs" "turned_pairs" s_turned_pairs f_turned_pairs d_turned_pairs
  b_turned_pairs : Binds K d_turned_pairs ["n", "row"] []
  g_turned_pairs : mg "turned_pairs" = some (.ref f_turned_pairs)
  f_mirror : Addr
  d_mirror : FuncData
  F_mirror : Fun K "mirror" "mirror" s_mirror f_mirror d_mirror
  b_mirror : Binds K d_mirror ["n", "row"] []
  g_mirror : mg "mirror" = some (.ref f_mirror)
  f_exchanged : Addr
  d_exchanged : FuncData
  F_exchanged : Fun K "exchanged" "exchanged" s_exchanged f_exchanged d_exchanged
  b_exchanged : Binds K d_exchanged ["n", "row", "i"] []
  g_exchanged : mg "exchanged" = some (.ref f_exchanged)
  f_row_turning : Addr
  d_row_turning : FuncData
  F_row_turning : Fun K "row_turning" "row_turning" s_row_turning f_row_turning d_row_turning
  b_row_turning : Binds K d_row_turning ["n", "turned"] []
  g_row_turning : mg "row_turning" = some (.ref f_row_turning)
  f_pairs_only_in : Addr
  d_pairs_only_in : FuncData
  F_pairs_only_in : Fun K "pairs_only_in" "pairs_only_in" s_pairs_only_in f_pairs_only_in d_pairs_only_in
  b_pairs_only_in : Binds K d_pairs_only_in ["pairs", "others"] []
  g_pairs_only_in : mg "pairs_only_in" = some (.ref f_pairs_only_in)
  f_pairs_not_below : Addr
  d_pairs_not_below : FuncData
  F_pairs_not_below : Fun K "pairs_not_below" "pairs_not_below" s_pairs_not_below f_pairs_not_below d_pairs_not_below
  b_pairs_not_below : Binds K d_pairs_not_below ["n", "one", "other"] []
  g_pairs_not_below : mg "pairs_not_below" = some (.ref f_pairs_not_below)
  f_is_below : Addr
  d_is_below : FuncData
  F_is_below : Fun K "is_below" "is_below" s_is_below f_is_below d_is_below
  b_is_below : Binds K d_is_below ["n", "one", "other"] []
  g_is_below : mg "is_below" = some (.ref f_is_below)
  f_chained : Addr
  d_chained : FuncData
  F_chained : Fun K "chained" "chained" s_chained f_chained d_chained
  b_chained : Binds K d_chained ["n", "pairs"] []
  g_chained : mg "chained" = some (.ref f_chained)
  f_least_above : Addr
  d_least_above : FuncData
  F_least_above : Fun K "least_above" "least_above" s_least_above f_least_above d_least_above
  b_least_above : Binds K d_least_above ["n", "one", "other"] []
  g_least_above : mg "least_above" = some (.ref f_least_above)
  f_greatest_below : Addr
  d_greatest_below : FuncData
  F_greatest_below : Fun K "greatest_below" "greatest_below" s_greatest_below f_greatest_below d_greatest_below
  b_greatest_below : Binds K d_greatest_below ["n", "one", "other"] []
  g_greatest_below : mg "greatest_below" = some (.ref f_greatest_below)
  f_all_rows : Addr
  d_all_rows : FuncData
  F_all_rows : Fun K "all_rows" "all_rows" s_all_rows f_all_rows d_all_rows
  b_all_rows : Binds K d_all_rows ["n"] []
  g_all_rows : mg "all_rows" = some (.ref f_all_rows)
  f_is_arc : Addr
  d_is_arc : FuncData
  F_is_arc : Fun K "is_arc" "is_arc" s_is_arc f_is_arc d_is_arc
  b_is_arc : Binds K d_is_arc ["n", "thing"] []
  g_is_arc : mg "is_arc" = some (.ref f_is_arc)
  f_arc_at : Addr
  d_arc_at : FuncData
  F_arc_at : Fun K "arc_at" "arc_at" s_arc_at f_arc_at d_arc_at
  b_arc_at : Binds K d_arc_at ["n", "row", "i"] []
  g_arc_at : mg "arc_at" = some (.ref f_arc_at)
  f_narrowed : Addr
  d_narrowed : FuncData
  F_narrowed : Fun K "narrowed" "narrowed" s_narrowed f_narrowed d_narrowed
  b_narrowed : Binds K d_narrowed ["arc", "c", "d"] []
  g_narrowed : mg "narrowed" = some (.ref f_narrowed)
  f_are_arcs : Addr
  d_are_arcs : FuncData
  F_are_arcs : Fun K "are_arcs" "are_arcs" s_are_arcs f_are_arcs d_are_arcs
  b_are_arcs : Binds K d_are_arcs ["n", "thing"] []
  g_are_arcs : mg "are_arcs" = some (.ref f_are_arcs)
  f_are_ascending_arcs : Addr
  d_are_ascending_arcs : FuncData
  F_are_ascending_arcs : Fun K "are_ascending_arcs" "are_ascending_arcs" s_are_ascending_arcs f_are_ascending_arcs d_are_ascending_arcs
  b_are_ascending_arcs : Binds K d_are_ascending_arcs ["n", "thing"] []
  g_are_ascending_arcs : mg "are_ascending_arcs" = some (.ref f_are_ascending_arcs)
  f_shortened : Addr
  d_shortened : FuncData
  F_shortened : Fun K "shortened" "shortened" s_shortened f_shortened d_shortened
  b_shortened : Binds K d_shortened ["arc"] []
  g_shortened : mg "shortened" = some (.ref f_shortened)
  f_lacking_pairs : Addr
  d_lacking_pairs : FuncData
  F_lacking_pairs : Fun K "lacking_pairs" "lacking_pairs" s_lacking_pairs f_lacking_pairs d_lacking_pairs
  b_lacking_pairs : Binds K d_lacking_pairs ["arcs"] []
  g_lacking_pairs : mg "lacking_pairs" = some (.ref f_lacking_pairs)
  f_is_rule : Addr
  d_is_rule : FuncData
  F_is_rule : Fun K "is_rule" "is_rule" s_is_rule f_is_rule d_is_rule
  b_is_rule : Binds K d_is_rule ["n", "thing"] []
  g_is_rule : mg "is_rule" = some (.ref f_is_rule)
  f_check_rule : Addr
  d_check_rule : FuncData
  F_check_rule : Fun K "check_rule" "check_rule" s_check_rule f_check_rule d_check_rule
  b_check_rule : Binds K d_check_rule ["n", "rule"] []
  g_check_rule : mg "check_rule" = some (.ref f_check_rule)
  f_rows_along : Addr
  d_rows_along : FuncData
  F_rows_along : Fun K "rows_along" "rows_along" s_rows_along f_rows_along d_rows_along
  b_rows_along : Binds K d_rows_along ["n", "row", "steps"] []
  g_rows_along : mg "rows_along" = some (.ref f_rows_along)
  f_check_rule_and_rows : Addr
  d_check_rule_and_rows : FuncData
  F_check_rule_and_rows : Fun K "check_rule_and_rows" "check_rule_and_rows" s_check_rule_and_rows f_check_rule_and_rows d_check_rule_and_rows
  b_check_rule_and_rows : Binds K d_check_rule_and_rows ["n", "rule", "rows"] []
  g_check_rule_and_rows : mg "check_rule_and_rows" = some (.ref f_check_rule_and_rows)
  f_blind_falls : Addr
  d_blind_falls : FuncData
  F_blind_falls : Fun K "blind_falls" "blind_falls" s_blind_falls f_blind_falls d_blind_falls
  b_blind_falls : Binds K d_blind_falls ["n", "rule", "row"] []
  g_blind_falls : mg "blind_falls" = some (.ref f_blind_falls)
  f_blind_rises : Addr
  d_blind_rises : FuncData
  F_blind_rises : Fun K "blind_rises" "blind_rises" s_blind_rises f_blind_rises d_blind_rises
  b_blind_rises : Binds K d_blind_rises ["n", "rule", "row"] []
  g_blind_rises : mg "blind_rises" = some (.ref f_blind_rises)
  f_way_to_first : Addr
  d_way_to_first : FuncData
  F_way_to_first : Fun K "way_to_first" "way_to_first" s_way_to_first f_way_to_first d_way_to_first
  b_way_to_first : Binds K d_way_to_first ["n", "rule", "row"] []
  g_way_to_first : mg "way_to_first" = some (.ref f_way_to_first)
  f_first_in_class : Addr
  d_first_in_class : FuncData
  F_first_in_class : Fun K "first_in_class" "first_in_class" s_first_in_class f_first_in_class d_first_in_class
  b_first_in_class : Binds K d_first_in_class ["n", "rule", "row"] []
  g_first_in_class : mg "first_in_class" = some (.ref f_first_in_class)
  f_last_in_class : Addr
  d_last_in_class : FuncData
  F_last_in_class : Fun K "last_in_class" "last_in_class" s_last_in_class f_last_in_class d_last_in_class
  b_last_in_class : Binds K d_last_in_class ["n", "rule", "row"] []
  g_last_in_class : mg "last_in_class" = some (.ref f_last_in_class)
  f_first_row : Addr
  d_first_row : FuncData
  F_first_row : Fun K "first_row" "first_row" s_first_row f_first_row d_first_row
  b_first_row : Binds K d_first_row ["n", "rule", "row"] []
  g_first_row : mg "first_row" = some (.ref f_first_row)
  f_last_row : Addr
  d_last_row : FuncData
  F_last_row : Fun K "last_row" "last_row" s_last_row f_last_row d_last_row
  b_last_row : Binds K d_last_row ["n", "rule", "row"] []
  g_last_row : mg "last_row" = some (.ref f_last_row)
  f_are_one : Addr
  d_are_one : FuncData
  F_are_one : Fun K "are_one" "are_one" s_are_one f_are_one d_are_one
  b_are_one : Binds K d_are_one ["n", "rule", "one", "other"] []
  g_are_one : mg "are_one" = some (.ref f_are_one)
  f_class_of : Addr
  d_class_of : FuncData
  F_class_of : Fun K "class_of" "class_of" s_class_of f_class_of d_class_of
  b_class_of : Binds K d_class_of ["n", "rule", "row"] []
  g_class_of : mg "class_of" = some (.ref f_class_of)
  f__law_deck : Addr
  d__law_deck : FuncData
  F__law_deck : Fun K "_law_deck" "_law_deck" s__law_deck f__law_deck d__law_deck
  b__law_deck : Binds K d__law_deck ["script"] []
  g__law_deck : mg "_law_deck" = some (.ref f__law_deck)
  f__law_draw : Addr
  d__law_draw : FuncData
  F__law_draw : Fun K "_law_draw" "_law_draw" s__law_draw f__law_draw d__law_draw
  b__law_draw : Binds K d__law_draw ["deck", "below"] []
  g__law_draw : mg "_law_draw" = some (.ref f__law_draw)
  f__law_pick : Addr
  d__law_pick : FuncData
  F__law_pick : Fun K "_law_pick" "_law_pick" s__law_pick f__law_pick d__law_pick
  b__law_pick : Binds K d__law_pick ["deck", "some"] []
  g__law_pick : mg "_law_pick" = some (.ref f__law_pick)
  f__law_shuffled : Addr
  d__law_shuffled : FuncData
  F__law_shuffled : Fun K "_law_shuffled" "_law_shuffled" s__law_shuffled f__law_shuffled d__law_shuffled
  b__law_shuffled : Binds K d__law_shuffled ["deck", "some"] []
  g__law_shuffled : mg "_law_shuffled" = some (.ref f__law_shuffled)
  f__law_row : Addr
  d__law_row : FuncData
  F__law_row : Fun K "_law_row" "_law_row" s__law_row f__law_row d__law_row
  b__law_row : Binds K d__law_row ["deck", "n"] []
  g__law_row : mg "_law_row" = some (.ref f__law_row)
  f__law_arc : Addr
  d__law_arc : FuncData
  F__law_arc : Fun K "_law_arc" "_law_arc" s__law_arc f__law_arc d__law_arc
  b__law_arc : Binds K d__law_arc ["deck", "n"] []
  g__law_arc : mg "_law_arc" = some (.ref f__law_arc)
  f__law_arcs : Addr
  d__law_arcs : FuncData
  F__law_arcs : Fun K "_law_arcs" "_law_arcs" s__law_arcs f__law_arcs d__law_arcs
  b__law_arcs : Binds K d__law_arcs ["n"] []
  g__law_arcs : mg "_law_arcs" = some (.ref f__law_arcs)
  f__law_lies : Addr
  d__law_lies : FuncData
  F__law_lies : Fun K "_law_lies" "_law_lies" s__law_lies f__law_lies d__law_lies
  b__law_lies : Binds K d__law_lies ["one", "other"] []
  g__law_lies : mg "_law_lies" = some (.ref f__law_lies)
  f__law_within : Addr
  d__law_within : FuncData
  F__law_within : Fun K "_law_within" "_law_within" s__law_within f__law_within d__law_within
  b__law_within : Binds K d__law_within ["arc"] []
  g__law_within : mg "_law_within" = some (.ref f__law_within)
  f__law_widest : Addr
  d__law_widest : FuncData
  F__law_widest : Fun K "_law_widest" "_law_widest" s__law_widest f__law_widest d__law_widest
  b__law_widest : Binds K d__law_widest ["n", "arcs"] []
  g__law_widest : mg "_law_widest" = some (.ref f__law_widest)
  f__law_closed : Addr
  d__law_closed : FuncData
  F__law_closed : Fun K "_law_closed" "_law_closed" s__law_closed f__law_closed d__law_closed
  b__law_closed : Binds K d__law_closed ["arcs"] []
  g__law_closed : mg "_law_closed" = some (.ref f__law_closed)
  f__law_marked : Addr
  d__law_marked : FuncData
  F__law_marked : Fun K "_law_marked" "_law_marked" s__law_marked f__law_marked d__law_marked
  b__law_marked : Binds K d__law_marked ["n", "marks"] []
  g__law_marked : mg "_law_marked" = some (.ref f__law_marked)
  f__law_rule : Addr
  d__law_rule : FuncData
  F__law_rule : Fun K "_law_rule" "_law_rule" s__law_rule f__law_rule d__law_rule
  b__law_rule : Binds K d__law_rule ["deck", "n"] []
  g__law_rule : mg "_law_rule" = some (.ref f__law_rule)
  f__law_arc_at : Addr
  d__law_arc_at : FuncData
  F__law_arc_at : Fun K "_law_arc_at" "_law_arc_at" s__law_arc_at f__law_arc_at d__law_arc_at
  b__law_arc_at : Binds K d__law_arc_at ["row", "i"] []
  g__law_arc_at : mg "_law_arc_at" = some (.ref f__law_arc_at)
  f__law_exchanged : Addr
  d__law_exchanged : FuncData
  F__law_exchanged : Fun K "_law_exchanged" "_law_exchanged" s__law_exchanged f__law_exchanged d__law_exchanged
  b__law_exchanged : Binds K d__law_exchanged ["row", "i"] []
  g__law_exchanged : mg "_law_exchanged" = some (.ref f__law_exchanged)
  f__law_known : Addr
  d__law_known : FuncData
  F__law_known : Fun K "_law_known" "_law_known" s__law_known f__law_known d__law_known
  b__law_known : Binds K d__law_known ["rule"] []
  g__law_known : mg "_law_known" = some (.ref f__law_known)
  f__law_blind : Addr
  d__law_blind : FuncData
  F__law_blind : Fun K "_law_blind" "_law_blind" s__law_blind f__law_blind d__law_blind
  b__law_blind : Binds K d__law_blind ["known", "row"] []
  g__law_blind : mg "_law_blind" = some (.ref f__law_blind)
  f__law_class : Addr
  d__law_class : FuncData
  F__law_class : Fun K "_law_class" "_law_class" s__law_class f__law_class d__law_class
  b__law_class : Binds K d__law_class ["known", "row"] []
  g__law_class : mg "_law_class" = some (.ref f__law_class)
  f__law_is_class_right : Addr
  d__law_is_class_right : FuncData
  F__law_is_class_right : Fun K "_law_is_class_right" "_law_is_class_right" s__law_is_class_right f__law_is_class_right d__law_is_class_right
  b__law_is_class_right : Binds K d__law_is_class_right ["deck", "n", "rule", "row", "due"] []
  g__law_is_class_right : mg "_law_is_class_right" = some (.ref f__law_is_class_right)
  f_law : Addr
  d_law : FuncData
  F_law : Fun K "law" "law" s_law f_law d_law
  b_law : Binds K d_law ["script"] []
  g_law : mg "law" = some (.ref f_law)
  k_class_of__row_rule_n : KBinds K d_class_of ["n", "rule", "row"] ["row", "rule", "n"] (perm 3 [2, 1, 0]) (perm 3 [2, 1, 0])
  m_all : mg "all" = none
  m_bool : mg "bool" = none
  m_enumerate : mg "enumerate" = none
  m_int : mg "int" = none
  m_isinstance : mg "isinstance" = none
  m_len : mg "len" = none
  m_list : mg "list" = none
  m_max : mg "max" = none
  m_min : mg "min" = none
  m_range : mg "range" = none
  m_repr : mg "repr" = none
  m_set : mg "set" = none
  m_sorted : mg "sorted" = none
  m_tuple : mg "tuple" = none
  p_permutations : mg "permutations" = some (.type "itertools.permutations")
section
variable {P : Program} {w : World} {K : PySem.W.Frag} {mg : Str → Option Value} {base : Heap}
/-! one step of the calculus -/
local macro_rules | `(tactic| walk_at "ka1") => `(tactic| first
  | (with_reducible refine dq_set ?_)
  | (with_reducible refine dq_asg ?_)
  | (with_reducible refine dq_par ?_)
  | (with_reducible refine dq_drop ?_)
  | (with_reducible refine ds_set ?_)
  | (with_reducible refine ds_asg ?_)
  | (with_reducible refine ds_par ?_)
  | (with_reducible refine ds_ret ?_)
  | (with_reducible refine ds_drop ?_)
  | (with_reducible refine ds_if ?_)
  | (with_reducible refine ds_next ?_)
  | ((with_reducible refine' de_var ?hv ?kv); (case hv => rfl))
  | (with_reducible refine de_int ?_)
  | (with_reducible refine de_bl ?_)
  | (with_reducible refine de_str ?_)
  | (with_reducible refine de_non ?_)
  | (with_reducible refine de_op ?_)
  | (with_reducible refine de_andV ?_)
  | (with_reducible refine de_orV ?_)
  | (with_reducible refine de_notV ?_)
  | (with_reducible refine de_un ?_)
  | (with_reducible refine de_if ?_)
  | (with_reducible refine de_chain ?_)
  | (with_reducible refine de_chain3 ?_)
  | (with_reducible refine opd_isNo ?_)
  | (with_reducible refine opd_notNo ?_)
  | (with_reducible refine de_cb ?_)
  | (with_reducible refine de_call ?_)
  | (with_reducible refine de_callK (perm_reps _ _) ?_)
  | (with_reducible refine de_tup ?_)
  | (with_reducible refine de_lst ?_)
  | (with_reducible refine de_sl ?_)
  | (with_reducible refine de_raw ?_)
  | (with_reducible refine da_nil ?_)
  | (with_reducible refine da_cons ?_)
  | (with_reducible refine dt_test ?_)
  | (with_reducible refine dt_B ?_)
  | (with_reducible refine dt_and ?_)
  | (with_reducible refine dt_tru ?_)
  | (with_reducible refine dt_or ?_)
  | (with_reducible refine dt_not ?_)
  | (with_reducible refine dt_yes ?_)
  | (with_reducible refine do_none ?_)
  | (with_reducible refine do_some ?_)
  | (with_reducible refine opd_addI ?_)
  | (with_reducible refine opd_I ?_)
  | (with_reducible refine opd_B ?_)
  | (with_reducible refine und_neg ?_)
  | (with_reducible refine sld_L ?_)
  | (with_reducible refine sld_T ?_)
  | (with_reducible refine cal_lenT ?_)
  | (with_reducible refine cal_lenL ?_)
  | (with_reducible refine cal_tupL ?_)
  | (with_reducible refine cal_tupT ?_)
  | (with_reducible refine cal_lstL ?_)
  | (with_reducible refine cal_lstT ?_)
  | (with_reducible refine cal_int ?_)
  | (with_reducible refine cal_max2 ?_)
  | (with_reducible refine cal_min2 ?_)
  | (with_reducible refine de_revL ?_)
  | (with_reducible refine de_revT ?_)
  | (with_reducible refine de_lstRg2 ?_)
  | (with_reducible refine de_tupRg2 ?_)
  | (with_reducible refine de_tupPm ?_)
  | (with_reducible refine opd_isB ?_)
  | (with_reducible refine opd_niB ?_)
  | (with_reducible refine cal_abs ?_)
  | (with_reducible refine di_rng1 ?_)
  | (with_reducible refine di_rng2 ?_)
  | (with_reducible refine ⟨[], rfl, by simp only [List.length_cons, List.length_nil]; decide, ?_⟩)
  | (with_reducible refine ⟨[_], rfl, by simp only [List.length_cons, List.length_nil]; decide, ?_⟩)
  | (with_reducible refine ⟨[_, _], rfl, by simp only [List.length_cons, List.length_nil]; decide, ?_⟩)
  | (with_reducible refine ⟨[_, _, _], rfl, by simp only [List.length_cons, List.length_nil]; decide, ?_⟩)
  | (with_reducible refine ⟨[_, _, _, _], rfl, by simp only [List.length_cons, List.length_nil]; decide, ?_⟩)
  | (with_reducible refine ⟨[_, _, _, _, _], rfl, by simp only [List.length_cons, List.length_nil]; decide, ?_⟩)
  | (with_reducible refine ⟨[_, _, _, _, _, _], rfl, by simp only [List.length_cons, List.length_nil]; decide, ?_⟩)
  | (with_reducible refine ⟨[_, _, _, _, _, _, _], rfl, by simp only [List.length_cons, List.length_nil]; decide, ?_⟩)
  | (with_reducible refine ⟨[_, _, _, _, _, _, _, _], rfl, by simp only [List.length_cons, List.length_nil]; decide, ?_⟩)
  | (with_reducible refine ⟨[_, _, _, _, _, _, _, _, _], rfl, by simp only [List.length_cons, List.length_nil]; decide, ?_⟩)
  | (with_reducible refine ⟨[_, _, _, _, _, _, _, _, _, _], rfl, by simp only [List.length_cons, List.length_nil]; decide, ?_⟩)
  | (with_reducible refine ⟨_, rfl, ?_⟩))
local macro_rules | `(tactic| walk_at "ka") => `(tactic| repeat walk_at "ka1")

/-! data: kinds, intsD, texts that are equal -/
def isInt : PyData → Bool
  | .int _ => true
  | _ => false
def isBool : PyData → Bool
  | .bool _ => true
  | _ => false
def isTup : PyData → Bool
  | .tuple _ => true
  | _ => false
def intOf : PyData → Int
  | .int i => i
  | _ => 0
def intsD (ns : List Int) : List PyData := ns.map PyData.int
theorem isInt_eq : ∀ {d : PyData}, isInt d = true → d = .int (intOf d)
  | .int _, _ => rfl
theorem all_ints : ∀ {ds : List PyData}, ds.all isInt = true → ds = intsD (ds.map intOf)
  | [], _ => rfl
  | d :: ds, h => by
    rw [List.all_cons, Bool.and_eq_true] at h
    show d :: ds = .int (intOf d) :: intsD (ds.map intOf)
    rw [← isInt_eq h.1, ← all_ints h.2]
theorem ints_all (ns : List Int) : (intsD ns).all isInt = true := by
  unfold intsD
  rw [List.all_map]
  exact List.all_eq_true.mpr fun _ _ => rfl
theorem ints_intOf (ns : List Int) : (intsD ns).map intOf = ns := by
  unfold intsD
  rw [List.map_map]
  exact List.map_id _
theorem eqvAll_ints : ∀ (xs ys : List Int), PyData.eqvAll (intsD xs) (intsD ys) = decide (xs = ys)
  | [], [] => by simp [intsD, PyData.eqvAll]
  | [], _ :: _ => by simp [intsD, PyData.eqvAll]
  | _ :: _, [] => by simp [intsD, PyData.eqvAll]
  | x :: xs, y :: ys => by
    have ih := eqvAll_ints xs ys
    show (PyData.eqv (.int x) (.int y) && PyData.eqvAll (intsD xs) (intsD ys)) = _
    rw [ih]
    by_cases h : x = y <;> by_cases h2 : xs = ys <;> simp [PyData.eqv, h, h2]
/-- two ascending lists with the same members are one -/
theorem asc_unique : ∀ {xs ys : List Int}, xs.Pairwise (· < ·) → ys.Pairwise (· < ·) → (∀ k, k ∈ xs ↔ k ∈ ys) → xs = ys
  | [], [], _, _, _ => rfl
  | [], y :: ys, _, _, h => by
    have := (h y).mpr (by simp)
    cases this
  | x :: xs, [], _, _, h => by
    have := (h x).mp (by simp)
    cases this
  | x :: xs, y :: ys, h1, h2, h => by
    rw [List.pairwise_cons] at h1 h2
    have e : x = y := by
      have a1 := (h x).mp (by simp)
      have a2 := (h y).mpr (by simp)
      rcases List.mem_cons.mp a1 with e | m1
      · exact e
      · rcases List.mem_cons.mp a2 with e | m2
        · exact e.symm
        · have := h1.1 y m2
          have := h2.1 x m1
          omega
    subst e
    refine congrArg (x :: ·) (asc_unique h1.2 h2.2 fun k => ⟨fun hk => ?_, fun hk => ?_⟩)
    · rcases List.mem_cons.mp ((h k).mp (List.mem_cons_of_mem _ hk)) with e | m
      · have := h1.1 k hk
        omega
      · exact m
    · rcases List.mem_cons.mp ((h k).mpr (List.mem_cons_of_mem _ hk)) with e | m
      · have := h2.1 k hk
        omega
      · exact m
theorem canLay_ints : ∀ ns : List Int, PyData.canLayAll0 (intsD ns) = true
  | [] => rfl
  | n :: ns => by
    show (PyData.canLay0 (.int n) && PyData.canLayAll0 (intsD ns)) = true
    rw [canLay_ints ns]
    rfl
theorem depth_intsD : ∀ ns : List Int, PyData.depthAll (intsD ns) = 0
  | [] => rfl
  | n :: ns => by
    show max (PyData.depth (.int n)) (PyData.depthAll (intsD ns)) = 0
    rw [depth_intsD ns]
    rfl
theorem shaped_listI (ns : List Int) : SeqAt.shaped (.list (intsD ns)) = true := by
  simp [SeqAt.shaped, PyData.canLay0, canLay_ints, PyData.depth, depth_intsD]
theorem shaped_tupI (ns : List Int) : SeqAt.shaped (.tuple (intsD ns)) = true := by
  simp [SeqAt.shaped, PyData.canLay0, canLay_ints, PyData.depth, depth_intsD]
theorem eqv_int {i j : Int} : PyData.eqv (.int i) (.int j) = decide (i = j) := by
  simp only [PyData.eqv]
  by_cases h : i = j <;> simp [h]
theorem any_eqv (S : List Int) (y : Int) : ((intsD S).any fun z => PyData.eqv z (.int y)) = decide (y ∈ S) := by
  unfold intsD
  rw [List.any_map]
  induction S with
  | nil => simp
  | cons p S ih =>
    rw [List.any_cons, ih]
    show (PyData.eqv (.int p) (.int y) || decide (y ∈ S)) = _
    rw [eqv_int]
    by_cases h : p = y <;> by_cases h2 : y ∈ S <;> simp [h, h2, eq_comm]
    exact fun e => h e.symm

/-! is_number -/
def C_is_number : Con := fun _ es P => ∃ d, es = [.dat d] ∧ P (.dat (.bool (isInt d)))
theorem kit_int : ∀ d : PyData, kitB (tyD d) "int" = some (isInt d || isBool d)
  | .none => (by decide +kernel : kitB "NoneType" "int" = some false)
  | .bool _ => (by decide +kernel : kitB "bool" "int" = some true)
  | .int _ => (by decide +kernel : kitB "int" "int" = some true)
  | .str _ => (by decide +kernel : kitB "str" "int" = some false)
  | .list _ => (by decide +kernel : kitB "list" "int" = some false)
  | .tuple _ => (by decide +kernel : kitB "tuple" "int" = some false)
  | .dict _ => (by decide +kernel : kitB "dict" "int" = some false)
theorem kit_bool : ∀ d : PyData, kitB (tyD d) "bool" = some (isBool d)
  | .none => (by decide +kernel : kitB "NoneType" "bool" = some false)
  | .bool _ => (by decide +kernel : kitB "bool" "bool" = some true)
  | .int _ => (by decide +kernel : kitB "int" "bool" = some false)
  | .str _ => (by decide +kernel : kitB "str" "bool" = some false)
  | .list _ => (by decide +kernel : kitB "list" "bool" = some false)
  | .tuple _ => (by decide +kernel : kitB "tuple" "bool" = some false)
  | .dict _ => (by decide +kernel : kitB "dict" "bool" = some false)
theorem kit_tuple : ∀ d : PyData, kitB (tyD d) "tuple" = some (isTup d)
  | .none => (by decide +kernel : kitB "NoneType" "tuple" = some false)
  | .bool _ => (by decide +kernel : kitB "bool" "tuple" = some false)
  | .int _ => (by decide +kernel : kitB "int" "tuple" = some false)
  | .str _ => (by decide +kernel : kitB "str" "tuple" = some false)
  | .list _ => (by decide +kernel : kitB "list" "tuple" = some false)
  | .tuple _ => (by decide +kernel : kitB "tuple" "tuple" = some true)
  | .dict _ => (by decide +kernel : kitB "dict" "tuple" = some false)
theorem ok_is_number (T : Tx K mg) : FnOk P w K mg base CX0 1 T.f_is_number T.d_is_number ["thing"] (SpC K C_is_number) := by
  refine kfn T.F_is_number sc_is_number (fun W es P ⟨d, h, _⟩ => by rw [h]; rfl) fun cdv A outer s H E hr => ⟨_, (pss_one (ps_ret (pe_and (pe_callB (cr_isiK (K := K) rfl) (by rfl) T.m_isinstance (by decide +kernel) (pa_cons (pv 0) (pa_cons (pe_bltn (v := .ty "int") (by rfl) T.m_int (by decide +kernel) rfl) pa_nil))) (pe_one (pe_not (pe_callB (cr_isiK (K := K) rfl) (by rfl) T.m_isinstance (by decide +kernel) (pa_cons (pv 0) (pa_cons (pe_bltn (v := .ty "bool") (by rfl) T.m_bool (by decide +kernel) rfl) pa_nil)))))))), fun W es P hC => ?_⟩
  obtain ⟨d, rfl, q⟩ := hC
  try dsimp only [cx_K, cx_w]
  walk_at "ka"
  refine cal_isi (kit_int d) ?_
  refine ⟨_, rfl, fun e => ?_, fun e => ⟨Wd.Le.refl W, ?_⟩⟩
  · walk_at "ka"
    refine cal_isi (kit_bool d) ⟨_, rfl, Wd.Le.refl W, ?_⟩
    cases d <;> first | exact q | (cases e)
  · cases d <;> first | exact q | (cases e)

def numIn (d : PyData) (lo hi : Int) : Bool := isInt d && (decide (lo ≤ intOf d) && decide (intOf d ≤ hi))
def C_is_number_from : Con := fun _ es P => ∃ d lo hi, es = [.dat d, .dat (.int lo), .dat (.int hi)] ∧ P (.dat (.bool (numIn d lo hi)))
theorem ok_is_number_from (T : Tx K mg) : FnOk P w K mg base CX0 2 T.f_is_number_from T.d_is_number_from ["thing", "low", "high"] (SpC K C_is_number_from) := by
  refine kfn T.F_is_number_from sc_is_number_from (fun W es P ⟨d, _, _, h, _⟩ => by rw [h]; rfl) fun cdv A outer s H E hr => ⟨_, (pss_one (ps_ret (pe_and (pe_call (ok_is_number T) hr (by rfl) T.g_is_number T.F_is_number.kp T.b_is_number .nil pass0 (pa_cons (pv 0) pa_nil)) (pe_one (pe_chain op_le op_le (pv 1) (pv 0) (pv 2)))))), fun W es P hC => ?_⟩
  obtain ⟨d, lo, hi, rfl, q⟩ := hC
  try dsimp only [cx_K, cx_w]
  walk_at "ka"
  refine ⟨d, rfl, _, rfl, fun e => ?_, fun e => ⟨Wd.Le.refl W, ?_⟩⟩
  · obtain ⟨i, rfl⟩ : ∃ i, d = .int i := ⟨_, isInt_eq e⟩
    walk_at "ka"
    refine ⟨fun e2 => ?_, fun e2 => ⟨Wd.Le.refl W, ?_⟩⟩
    · walk_at "ka"
      refine ⟨Wd.Le.refl W, ?_⟩
      have q' : P (.dat (.bool (true && (decide (lo ≤ i) && decide (i ≤ hi))))) := q
      rw [e2] at q'
      exact q'
    · have q' : P (.dat (.bool (true && (decide (lo ≤ i) && decide (i ≤ hi))))) := q
      rw [e2] at q'
      exact q'
  · unfold numIn at q
    rw [e] at q
    exact q

def itemsOf : PyData → List PyData
  | .tuple ds => ds
  | _ => []
theorem isTup_eq : ∀ {d : PyData}, isTup d = true → d = .tuple (itemsOf d)
  | .tuple _, _ => rfl
def areInts (d : PyData) : Bool := isTup d && (itemsOf d).all isInt
def C_are_numbers : Con := fun _ es P => ∃ d, es = [.dat d] ∧ (itemsOf d).length ≤ 50000 ∧ P (.dat (.bool (areInts d)))
theorem ok_are_numbers (T : Tx K mg) : FnOk P w K mg base CX0 2 T.f_are_numbers T.d_are_numbers ["thing"] (SpC K C_are_numbers) := by
  refine kfn T.F_are_numbers sc_are_numbers (fun W es P ⟨d, h, _⟩ => by rw [h]; rfl) fun cdv A outer s H E hr => ⟨_, (pss_one (ps_ret (pe_and (pe_callB (cr_isiK (K := K) rfl) (by rfl) T.m_isinstance (by decide +kernel) (pa_cons (pv 0) (pa_cons (pe_bltn (v := .ty "tuple") (by rfl) T.m_tuple (by decide +kernel) rfl) pa_nil))) (pe_one (pe_callB (cr_allK (K := K) rfl rfl) (by rfl) T.m_all (by decide +kernel) (pa_cons (pe_lc (own := [("part", 1)]) rfl sc_are_numbers.nd (pi_seqK (K := K) rfl (pv 0)) (blkOk_by (N := N_are_numbers) (sc := defScope s_are_numbers) (by decide +kernel)) (fun _ _ _ _ _ => (pg_name (i := 1) sc_are_numbers.nd rfl (by first | exact Or.inl rfl | exact Or.inr rfl))) (fun _ _ _ _ _ => pts_nil) (fun _ _ _ _ _ => (pe_call (ok_is_number T) hr (by rfl) T.g_is_number T.F_is_number.kp T.b_is_number .nil pass0 (pa_cons (pv 1) pa_nil)))) pa_nil)))))), fun W es P hC => ?_⟩
  obtain ⟨d, rfl, hz, q⟩ := hC
  try dsimp only [cx_K, cx_w]
  walk_at "ka"
  refine cal_isi (kit_tuple d) ⟨_, rfl, fun e => ?_, fun e => ⟨Wd.Le.refl W, ?_⟩⟩
  · obtain ⟨ds, rfl⟩ : ∃ ds, d = .tuple ds := ⟨_, isTup_eq e⟩
    walk_at "ka"
    refine de_lcM ds DV.dat (fun _ => true) (fun d => .bool (isInt d)) (di_seqT ?_) hz ?_ ?_
    · walk_at "ka"
      rfl
    · intro d hd W' hW
      refine ⟨_, _, tg_name, by simp, ?_⟩
      walk_at "ka"
      refine ⟨rfl, fun _ => ?_⟩
      walk_at "ka"
      exact ⟨d, rfl, rfl⟩
    · walk_at "ka"
      rw [List.filter_eq_self.mpr (fun _ _ => rfl)]
      have e2 : ds.map (fun d => PyData.bool (isInt d)) = (ds.map isInt).map PyData.bool := by rw [List.map_map]; rfl
      rw [e2]
      refine cal_all ⟨Wd.Le.refl W, ?_⟩
      rw [List.all_map]
      exact q
  · unfold areInts at q
    rw [e] at q
    exact q

def ascNums (d : PyData) : Bool := areInts d && decide (((itemsOf d).map intOf).Pairwise (· < ·))
def C_are_ascending_numbers : Con := fun _ es P => ∃ d, es = [.dat d] ∧ (itemsOf d).length < 64 ∧ P (.dat (.bool (ascNums d)))
theorem ok_are_ascending_numbers (T : Tx K mg) : FnOk P w K mg base CX0 3 T.f_are_ascending_numbers T.d_are_ascending_numbers ["thing"] (SpC K C_are_ascending_numbers) := by
  refine kfn T.F_are_ascending_numbers sc_are_ascending_numbers (fun W es P ⟨d, h, _⟩ => by rw [h]; rfl) fun cdv A outer s H E hr => ⟨_, (pss_one (ps_ret (pe_and (pe_call (ok_are_numbers T) hr (by rfl) T.g_are_numbers T.F_are_numbers.kp T.b_are_numbers .nil pass0 (pa_cons (pv 0) pa_nil)) (pe_one (pe_cmpR (op_eqK (K := K) rfl hr.units) (pe_callTy (cr_lstK (K := K) rfl) (by rfl) T.m_list (by decide +kernel) (pa_cons (pv 0) pa_nil)) (pe_callB (cr_sortedZ (K := K) (w := w) rfl rfl rfl hr.units) (by rfl) T.m_sorted (by decide +kernel) (pa_cons (pe_callTy (cr_setX (K := K) (w := w) rfl rfl rfl hr.units) (by rfl) T.m_set (by decide +kernel) (pa_cons (pv 0) pa_nil)) pa_nil)) (nomark _)))))), fun W es P hC => ?_⟩
  obtain ⟨d, rfl, hz, q⟩ := hC
  try dsimp only [cx_K, cx_w]
  walk_at "ka"
  refine ⟨d, rfl, by omega, _, rfl, fun e => ?_, fun e => ⟨Wd.Le.refl W, ?_⟩⟩
  · obtain ⟨ns, rfl⟩ : ∃ ns, d = .tuple (intsD ns) := by
      unfold areInts at e
      rw [Bool.and_eq_true] at e
      exact ⟨(itemsOf d).map intOf, by rw [← all_ints e.2]; exact isTup_eq e.1⟩
    have hl : ns.length < 64 := by
      have : (itemsOf (.tuple (intsD ns))).length = ns.length := List.length_map ..
      omega
    walk_at "ka"
    refine cal_setXI (by omega) fun c hc => ?_
    walk_at "ka"
    refine cal_sortedZS (by omega) fun ss h1 h2 _ => ?_
    refine opd_eq (shaped_listI _) (shaped_listI _) ⟨Wd.Le.refl W, ?_⟩
    have h3 : ∀ k, k ∈ ss ↔ k ∈ ns := fun k => by rw [h2 k]; exact decide_eq_true_iff
    have e1 : PyData.eqv (.list (intsD ns)) (.list (intsD ss)) = decide (ns.Pairwise (· < ·)) := by
      show PyData.eqvAll (intsD ns) (intsD ss) = _
      rw [eqvAll_ints]
      refine decide_eq_decide.mpr ⟨fun z => by rw [z]; exact h1, fun z => asc_unique z h1 fun k => (h3 k).symm⟩
    have q' : P (.dat (.bool (areInts (.tuple (intsD ns)) && decide (((intsD ns).map intOf).Pairwise (· < ·))))) := q
    rw [e, ints_intOf] at q'
    show P (.dat (.bool (PyData.eqv (.list (intsD ns)) (.list (intsD ss)))))
    rw [e1]
    exact q'
  · unfold ascNums at q
    rw [e] at q
    exact q

/-! counting up -/
theorem rgN_mem {lo x : Int} {n : Nat} : x ∈ rgN lo n ↔ lo ≤ x ∧ x < lo + n := by
  unfold rgN
  rw [List.mem_map]
  constructor
  · rintro ⟨i, hi, rfl⟩
    rw [List.mem_range] at hi
    omega
  · rintro ⟨h1, h2⟩
    exact ⟨(x - lo).toNat, List.mem_range.mpr (by omega), by omega⟩
theorem rgN_succ {lo : Int} {i : Nat} : rgN lo (i + 1) = rgN lo i ++ [lo + (i : Int)] := by
  unfold rgN
  rw [List.range_succ, List.map_append]
  rfl
theorem rgN_at {lo : Int} {n i : Nat} {e : DV} (h : ((rgN lo n).map fun i => DV.dat (.int i))[i]? = some e) : i < n ∧ e = .dat (.int (lo + i)) := by
  rw [List.getElem?_map] at h
  by_cases hi : i < n
  · rw [rgN_get hi] at h
    cases h
    exact ⟨hi, rfl⟩
  · rw [List.getElem?_eq_none (by rw [rgN_length]; omega)] at h
    cases h
theorem rgN_asc {lo : Int} : ∀ {n : Nat}, (rgN lo n).Pairwise (· < ·)
  | 0 => .nil
  | n + 1 => by
    rw [rgN_succ, List.pairwise_append]
    refine ⟨rgN_asc, List.pairwise_singleton .., fun p hp x hx => ?_⟩
    rw [List.mem_singleton] at hx
    rw [rgN_mem] at hp
    omega
/-! what sorted gives -/
theorem le_total : PySem.W.TotalLe (PySem.W.dataLe (β := PyData) false id) := by
  unfold PySem.W.dataLe
  exact PySem.W.sortLe_total _ _ _
theorem le_trans3 : ∀ a b c : PyData, PySem.W.dataLe false id a b = true → PySem.W.dataLe false id b c = true → PySem.W.dataLe false id a c = true := le_total.trans
theorem le_either (a b : PyData) : (PySem.W.dataLe false id a b || PySem.W.dataLe false id b a) = true := by
  rw [Bool.or_eq_true]
  exact le_total.total a b
theorem le_both {a b : PyData} (h1 : PySem.W.dataLe false id a b = true) (h2 : PySem.W.dataLe false id b a = true) : PySem.W.keyToks a = PySem.W.keyToks b := by
  rw [PySem.W.dataLe_eq] at h1 h2
  simp only [cond_false, Bool.not_eq_true', id] at h1 h2
  exact PyProof.Rows.lex_total _ _ h2 h1
theorem sort_same {l1 l2 : List PyData} (hp : l1.Perm l2) (inj : ∀ a ∈ l1, ∀ b ∈ l1, PySem.W.keyToks a = PySem.W.keyToks b → a = b) : l1.mergeSort (PySem.W.dataLe false id) = l2.mergeSort (PySem.W.dataLe false id) := by
  have p1 := List.mergeSort_perm l1 (PySem.W.dataLe false id)
  have p2 := List.mergeSort_perm l2 (PySem.W.dataLe false id)
  refine List.Perm.eq_of_pairwise (le := fun a b => PySem.W.dataLe false id a b = true) (fun a b ha hb h1 h2 => ?_) (List.pairwise_mergeSort le_trans3 le_either l1) (List.pairwise_mergeSort le_trans3 le_either l2) ((p1.trans hp).trans p2.symm)
  exact inj a (p1.mem_iff.mp ha) b (hp.mem_iff.mpr (p2.mem_iff.mp hb)) (le_both h1 h2)
theorem sort_is {l1 l2 : List PyData} (hp : l1.Perm l2) (inj : ∀ a ∈ l1, ∀ b ∈ l1, PySem.W.keyToks a = PySem.W.keyToks b → a = b) (hs : l2.Pairwise fun a b => PySem.W.dataLe false id a b = true) : l1.mergeSort (PySem.W.dataLe false id) = l2 := by
  rw [sort_same hp inj]
  exact List.mergeSort_of_pairwise hs
theorem toks_int {i j : Int} (h : PySem.W.keyToks (.int i) = PySem.W.keyToks (.int j)) : i = j := by
  simp only [PySem.W.keyToks] at h
  injection h with h
  injection h
theorem toks_ints : ∀ {S R : List Int} {l m : List (Int ⊕ List Nat)}, PySem.W.keyToksAll (intsD S) ++ l = PySem.W.keyToksAll (intsD R) ++ m → S = R ∧ l = m
  | [], [], l, m, h => by
    simp only [intsD, List.map_nil, PySem.W.keyToksAll, List.cons_append, List.nil_append, List.cons.injEq, true_and] at h
    exact ⟨rfl, h⟩
  | [], y :: R, l, m, h => by
    simp [intsD, PySem.W.keyToksAll] at h
  | x :: S, [], l, m, h => by
    simp [intsD, PySem.W.keyToksAll] at h
  | x :: S, y :: R, l, m, h => by
    have e : ∀ (z : Int) (T : List Int), PySem.W.keyToksAll (intsD (z :: T)) = .inl 1 :: .inl z :: PySem.W.keyToksAll (intsD T) := fun z T => by
      simp [intsD, PySem.W.keyToksAll, PySem.W.keyToks]
    rw [e, e, List.cons_append, List.cons_append, List.cons_append, List.cons_append] at h
    simp only [List.cons.injEq, true_and, Sum.inl.injEq] at h
    obtain ⟨h1, h2⟩ := toks_ints h.2
    exact ⟨by rw [h.1, h1], h2⟩
theorem toks_tupI {S R : List Int} (h : PySem.W.keyToks (.tuple (intsD S)) = PySem.W.keyToks (.tuple (intsD R))) : S = R := by
  simp only [PySem.W.keyToks] at h
  exact (toks_ints (l := []) (m := []) (by rw [h])).1
theorem int_le {i j : Int} (h : i ≤ j) : PySem.W.dataLe false id (.int i) (.int j) = true := by
  have := congrFun (congrFun (PySem.W.dataLe_int (β := Int) id) i) j
  show PySem.W.dataLe false (fun b : Int => .int (id b)) i j = true
  rw [this]
  exact decide_eq_true h
theorem sort_ints {S R : List Int} (hp : S.Perm R) (h : R.Pairwise (· < ·)) : (intsD S).mergeSort (PySem.W.dataLe false id) = intsD R := by
  refine sort_is (hp.map _) (fun a ha b hb e => ?_) (List.pairwise_map.mpr (h.imp fun z => int_le (Int.le_of_lt z)))
  obtain ⟨i, _, rfl⟩ := List.mem_map.mp ha
  obtain ⟨j, _, rfl⟩ := List.mem_map.mp hb
  rw [toks_int e]
theorem ints_alike (ns : List Int) : PySem.W.AllAlike (intsD ns) := fun d hd e he => by
  obtain ⟨i, _, rfl⟩ := List.mem_map.mp hd
  obtain ⟨j, _, rfl⟩ := List.mem_map.mp he
  rfl
theorem ints_sortable (ns : List Int) : PySem.W.Sortable (intsD ns) := .inr fun d hd => by
  obtain ⟨i, _, rfl⟩ := List.mem_map.mp hd
  exact ⟨nofun, nofun⟩
theorem ints_dep (ns : List Int) : ∀ d ∈ intsD ns, d.depth ≤ 60 := fun d hd => by
  obtain ⟨i, _, rfl⟩ := List.mem_map.mp hd
  exact Nat.zero_le _

/-! rows -/
structure RowOk (n : Int) (r : List Int) : Prop where
  perm : r.Perm (rgN 1 n.toNat)
  lo : 0 ≤ n
  hi : n ≤ 60
theorem RowOk.len {n : Int} {r : List Int} (h : RowOk n r) : (r.length : Int) = n := by
  rw [h.perm.length_eq, rgN_length]
  exact Int.toNat_of_nonneg h.lo
theorem RowOk.mem {n x : Int} {r : List Int} (h : RowOk n r) : x ∈ r ↔ 1 ≤ x ∧ x ≤ n := by
  rw [h.perm.mem_iff, rgN_mem]
  have := h.lo
  omega
theorem RowOk.nodup {n : Int} {r : List Int} (h : RowOk n r) : r.Nodup := h.perm.nodup_iff.mpr (List.Pairwise.imp (fun z => Int.ne_of_lt z) rgN_asc)

def C_is_row : Con := fun _ es P => ∃ n r, es = [.dat (.int n), .dat (.tuple (intsD r))] ∧ RowOk n r ∧ P (.dat (.bool true))
theorem ok_is_row (T : Tx K mg) : FnOk P w K mg base CX0 3 T.f_is_row T.d_is_row ["n", "thing"] (SpC K C_is_row) := by
  refine kfn T.F_is_row sc_is_row (fun W es P ⟨_, _, h, _⟩ => by rw [h]; rfl) fun cdv A outer s H E hr => ⟨_, (pss_one (ps_ret (pe_and (pe_call (ok_are_numbers T) hr (by rfl) T.g_are_numbers T.F_are_numbers.kp T.b_are_numbers .nil pass0 (pa_cons (pv 1) pa_nil)) (pe_one (pe_cmpR (op_eqK (K := K) rfl hr.units) (pe_callB (cr_sortedZ (K := K) (w := w) rfl rfl rfl hr.units) (by rfl) T.m_sorted (by decide +kernel) (pa_cons (pv 1) pa_nil)) (pe_listRg rfl (by rfl) T.m_list (prg_2 (by rfl) T.m_range pe_int (pe_op (op_addK (K := K) rfl) (pv 0) pe_int))) (nomark _)))))), fun W es P hC => ?_⟩
  obtain ⟨n, r, rfl, ho, q⟩ := hC
  have h1 := ho.lo
  have h2 := ho.hi
  have h3 := ho.len
  try dsimp only [cx_K, cx_w]
  walk_at "ka"
  refine ⟨_, rfl, by show (intsD r).length ≤ 50000; rw [show (intsD r).length = r.length from List.length_map ..]; omega, ?_⟩
  refine ⟨_, rfl, fun _ => ?_, fun e => ?_⟩
  · walk_at "ka"
    refine cal_sortedZT (ints_alike r) (ints_sortable r) (ints_dep r) ?_
    walk_at "ka"
    refine ⟨.of_le (by omega) (by omega) (by omega) (by omega), ?_⟩
    rw [sort_ints ho.perm rgN_asc, show n + 1 - 1 = n by omega]
    refine opd_eq (shaped_listI _) (shaped_listI _) ⟨Wd.Le.refl W, ?_⟩
    have e : PyData.eqv (.list (intsD (rgN 1 n.toNat))) (.list (intsD (rgN 1 n.toNat))) = true := by
      show PyData.eqvAll _ _ = true
      rw [eqvAll_ints]
      exact decide_eq_true rfl
    show P (.dat (.bool (PyData.eqv (.list (intsD (rgN 1 n.toNat))) (.list (intsD (rgN 1 n.toNat))))))
    rw [e]
    exact q
  · have : areInts (.tuple (intsD r)) = true := by
      show (isTup (.tuple (intsD r)) && (intsD r).all isInt) = true
      rw [ints_all]
      rfl
    rw [this] at e
    cases e

def C_check_row : Con := fun _ es P => ∃ n r, es = [.dat (.int n), .dat (.tuple (intsD r))] ∧ RowOk n r ∧ P (.dat .none)
theorem ok_check_row (T : Tx K mg) : FnOk P w K mg base CX0 4 T.f_check_row T.d_check_row ["n", "row"] (SpC K C_check_row) := by
  refine kfn T.F_check_row sc_check_row (fun W es P ⟨_, _, h, _⟩ => by rw [h]; rfl) fun cdv A outer s H E hr => ⟨_, (pss_one (ps_if (pt_not (pt_val (pe_call (ok_is_row T) hr (by rfl) T.g_is_row T.F_is_row.kp T.b_is_row .nil pass0 (pa_cons (pv 0) (pa_cons (pv 1) pa_nil))))) (pss_one ps_never) pss_nil)), fun W es P hC => ?_⟩
  obtain ⟨n, r, rfl, ho, q⟩ := hC
  try dsimp only [cx_K, cx_w]
  walk_at "ka"
  refine ⟨n, r, rfl, ho, ?_⟩
  refine ⟨_, rfl, fun e => ?_, fun _ => ds_next ⟨Wd.Le.refl W, q⟩⟩
  cases e

def C_check_place : Con := fun _ es P => ∃ n i : Int, es = [.dat (.int n), .dat (.int i)] ∧ 0 ≤ i ∧ i ≤ n - 2 ∧ P (.dat .none)
theorem ok_check_place (T : Tx K mg) : FnOk P w K mg base CX0 3 T.f_check_place T.d_check_place ["n", "i"] (SpC K C_check_place) := by
  refine kfn T.F_check_place sc_check_place (fun W es P ⟨_, _, h, _⟩ => by rw [h]; rfl) fun cdv A outer s H E hr => ⟨_, (pss_one (ps_if (pt_not (pt_val (pe_call (ok_is_number_from T) hr (by rfl) T.g_is_number_from T.F_is_number_from.kp T.b_is_number_from .nil pass0 (pa_cons (pv 1) (pa_cons pe_int (pa_cons (pe_op op_sub (pv 0) pe_int) pa_nil)))))) (pss_one ps_never) pss_nil)), fun W es P hC => ?_⟩
  obtain ⟨n, i, rfl, h1, h2, q⟩ := hC
  try dsimp only [cx_K, cx_w]
  walk_at "ka"
  refine ⟨_, _, _, rfl, _, rfl, fun e => ?_, fun _ => ds_next ⟨Wd.Le.refl W, q⟩⟩
  have : numIn (.int i) 0 (n - 2) = true := by
    unfold numIn
    rw [show intOf (.int i) = i from rfl, decide_eq_true h1, decide_eq_true h2]
    rfl
  rw [this] at e
  cases e

theorem cut_from {α : Type} {l : List α} {i : Int} (h : 0 ≤ i) : cutG l (some i) none = l.drop i.toNat := by
  unfold cutG
  have e1 : HT.sIx l.length 0 (some i) = min i.toNat l.length := by
    show (if i < 0 then (i + (l.length : Int)).toNat else min i.toNat l.length) = _
    rw [if_neg (by omega)]
  have e2 : HT.sIx l.length l.length none = l.length := rfl
  rw [e1, e2]
  by_cases c : i.toNat ≤ l.length
  · rw [Nat.min_eq_left c, List.take_of_length_le (by rw [List.length_drop]; exact Nat.le_refl _)]
  · rw [Nat.min_eq_right (by omega), List.drop_of_length_le (Nat.le_refl _), List.drop_of_length_le (by omega)]
    simp
theorem cut_to {α : Type} {l : List α} {i : Int} (h : 0 ≤ i) : cutG l none (some i) = l.take i.toNat := by
  unfold cutG
  have e1 : HT.sIx l.length l.length (some i) = min i.toNat l.length := by
    show (if i < 0 then (i + (l.length : Int)).toNat else min i.toNat l.length) = _
    rw [if_neg (by omega)]
  have e2 : HT.sIx l.length 0 none = 0 := rfl
  rw [e1, e2, List.drop_zero, Nat.sub_zero]
  by_cases c : i.toNat ≤ l.length
  · rw [Nat.min_eq_left c]
  · rw [Nat.min_eq_right (by omega), List.take_of_length_le (Nat.le_refl _), List.take_of_length_le (by omega)]
theorem intsD_drop (l : List Int) (k : Nat) : (intsD l).drop k = intsD (l.drop k) := (List.map_drop ..).symm
theorem intsD_take (l : List Int) (k : Nat) : (intsD l).take k = intsD (l.take k) := (List.map_take ..).symm
theorem intsD_get {l : List Int} {k : Nat} {x : Int} (h : l[k]? = some x) : (intsD l)[k]? = some (.int x) := by
  unfold intsD
  rw [List.getElem?_map, h]
  rfl
theorem intsD_len (l : List Int) : (intsD l).length = l.length := List.length_map ..
theorem intsD_append (l m : List Int) : intsD l ++ intsD m = intsD (l ++ m) := (List.map_append ..).symm
theorem intsD_rev (l : List Int) : (intsD l).reverse = intsD l.reverse := (List.map_reverse ..).symm

def pairD (a b : Int) : PyData := .tuple [.int a, .int b]
/-- the turned pairs, in the order in which they are found -/
def turnedL (r : List Int) : List PyData := r.zipIdx.flatMap fun p => ((r.drop (p.2 + 1)).filter fun low => decide (low < p.1)).map fun low => pairD low p.1
def turnedD (r : List Int) : List PyData := (turnedL r).mergeSort (PySem.W.dataLe false id)
theorem enum_ints (r : List Int) : enumD (intsD r) = r.zipIdx.map fun p => DV.dat (.tuple [.int p.2, .int p.1]) := by
  unfold enumD intsD
  rw [List.zipIdx_map, List.map_map]
  rfl
theorem turnedL_mem {r : List Int} {x : PyData} (h : x ∈ turnedL r) : ∃ a b, x = pairD a b ∧ a < b ∧ a ∈ r ∧ b ∈ r := by
  unfold turnedL at h
  obtain ⟨p, hp, h⟩ := List.mem_flatMap.mp h
  obtain ⟨low, hl, rfl⟩ := List.mem_map.mp h
  obtain ⟨h1, h2⟩ := List.mem_filter.mp hl
  refine ⟨low, p.1, rfl, of_decide_eq_true h2, List.mem_of_mem_drop h1, ?_⟩
  have := List.mem_zipIdx hp
  rw [this.2.2]
  exact List.getElem_mem ..
theorem pair_alike {a b c d : Int} : PySem.W.alike (pairD a b) (pairD c d) = true := by
  show PySem.W.alike (.tuple [.int a, .int b]) (.tuple [.int c, .int d]) = true
  simp only [PySem.W.alike, PySem.W.alikeAll, Bool.and_true]
theorem turned_alike (r : List Int) : PySem.W.AllAlike (turnedL r) := fun x hx y hy => by
  obtain ⟨_, _, rfl, _⟩ := turnedL_mem hx
  obtain ⟨_, _, rfl, _⟩ := turnedL_mem hy
  exact pair_alike
theorem turned_sortable (r : List Int) : PySem.W.Sortable (turnedL r) := .inl fun x hx => by
  obtain ⟨a, b, rfl, _⟩ := turnedL_mem hx
  exact ⟨_, _, rfl⟩
theorem turned_dep (r : List Int) : ∀ x ∈ turnedL r, x.depth ≤ 60 := fun x hx => by
  obtain ⟨a, b, rfl, _⟩ := turnedL_mem hx
  show (PyData.tuple [.int a, .int b]).depth ≤ 60
  simp [PyData.depth, PyData.depthAll]
def C_turned_pairs : Con := fun _ es P => ∃ n r, es = [.dat (.int n), .dat (.tuple (intsD r))] ∧ RowOk n r ∧ P (.dat (.tuple (turnedD r)))
theorem ok_turned_pairs (T : Tx K mg) : FnOk P w K mg base CX0 5 T.f_turned_pairs T.d_turned_pairs ["n", "row"] (SpC K C_turned_pairs) := by
  refine kfn T.F_turned_pairs sc_turned_pairs (fun W es P ⟨_, _, h, _⟩ => by rw [h]; rfl) fun cdv A outer s H E hr => ⟨_, (pss_cons (ps_expr (pe_call (ok_check_row T) hr (by rfl) T.g_check_row T.F_check_row.kp T.b_check_row .nil pass0 (pa_cons (pv 0) (pa_cons (pv 1) pa_nil))))
      (pss_cons (ps_setLc2 (i := 2) (own := [("i", 3), ("high", 4), ("low", 5)]) (vs1 := [5]) rfl sc_turned_pairs.nd rfl rfl (sw_true rfl rfl rfl (by decide +kernel)) (pi_enTK (K := K) rfl (by rfl) T.m_enumerate (pa_cons (pv 1) pa_nil)) (blkOk_by (N := N_turned_pairs) (sc := defScope s_turned_pairs) (by decide +kernel)) (by decide) (fun _ _ _ _ _ => (pg_tupK (K := K) rfl (pg_tup (n := 2) rfl (pgs_cons (pg_name (i := 3) sc_turned_pairs.nd rfl (by first | exact Or.inl rfl | exact Or.inr rfl)) (pgs_cons (pg_name (i := 4) sc_turned_pairs.nd rfl (by first | exact Or.inl rfl | exact Or.inr rfl)) pgs_nil))))) (fun _ _ _ _ _ => pts_nil) (fun _ _ _ _ _ => (pi_seqK (K := K) rfl (pe_slice (sl_K (K := K) rfl) (pv 1) (po_some (pe_op (op_addK (K := K) rfl) (pv 3) pe_int)) po_none))) (fun _ _ _ _ _ => (pg_name (i := 5) sc_turned_pairs.nd rfl (by first | exact Or.inl rfl | exact Or.inr rfl))) (fun _ _ _ _ _ => (pts_one (pt_cmpR op_lt (pv 5) (pv 4) (nomark _)))) (fun _ _ _ _ _ => (pe_tup (pa_cons (pv 5) (pa_cons (pv 4) pa_nil)))))
      (pss_one (ps_ret (pe_callTy (cr_tupK (K := K) rfl) (by rfl) T.m_tuple (by decide +kernel) (pa_cons (pe_callB (cr_sortedZ (K := K) (w := w) rfl rfl rfl hr.units) (by rfl) T.m_sorted (by decide +kernel) (pa_cons (pv 2) pa_nil)) pa_nil)))))), fun W es P hC => ?_⟩
  obtain ⟨n, r, rfl, ho, q⟩ := hC
  have h1 := ho.lo
  have h2 := ho.hi
  have h3 := ho.len
  try dsimp only [cx_K, cx_w]
  walk_at "ka"
  refine ⟨n, r, rfl, ho, ?_⟩
  walk_at "ka"
  refine de_lc2M r.zipIdx (fun p => DV.dat (.tuple [.int p.2, .int p.1])) (fun _ => true) (fun p => r.drop (p.2 + 1)) (fun _ d => DV.dat (.int d)) (fun p low => decide (low < p.1)) (fun p low => pairD low p.1) 60 ?_ ?_ ?_ ?_ ?_
  · refine di_enT ?_
    walk_at "ka"
    exact enum_ints r
  · rw [List.length_zipIdx]
    omega
  · intro p hp
    rw [List.length_drop]
    omega
  · intro p hp W' hW
    refine ⟨_, _, tg_tup2, by simp, ?_⟩
    walk_at "ka"
    refine ⟨rfl, fun _ => ⟨?_, fun low hl W'' hW2 => ?_⟩⟩
    · refine di_seqT ?_
      walk_at "ka"
      show (cutG (intsD r) (some ((p.2 : Int) + 1)) none).map DV.dat = _
      rw [cut_from (by omega), show ((p.2 : Int) + 1).toNat = p.2 + 1 by omega, intsD_drop]
      exact List.map_map ..
    · refine ⟨_, _, tg_name, by simp, ?_⟩
      walk_at "ka"
      refine ⟨rfl, fun e => ?_⟩
      walk_at "ka"
      rfl
  · walk_at "ka"
    rw [List.filter_eq_self.mpr (fun _ _ => rfl)]
    refine cal_sortedZL (turned_alike r) (turned_sortable r) (turned_dep r) ?_
    walk_at "ka"
    exact ⟨Wd.Le.refl W, q⟩

def C_mirror : Con := fun _ es P => ∃ n r, es = [.dat (.int n), .dat (.tuple (intsD r))] ∧ RowOk n r ∧ P (.dat (.tuple (intsD r.reverse)))
theorem ok_mirror (T : Tx K mg) : FnOk P w K mg base CX0 5 T.f_mirror T.d_mirror ["n", "row"] (SpC K C_mirror) := by
  refine kfn T.F_mirror sc_mirror (fun W es P ⟨_, _, h, _⟩ => by rw [h]; rfl) fun cdv A outer s H E hr => ⟨_, (pss_cons (ps_expr (pe_call (ok_check_row T) hr (by rfl) T.g_check_row T.F_check_row.kp T.b_check_row .nil pass0 (pa_cons (pv 0) (pa_cons (pv 1) pa_nil))))
      (pss_one (ps_ret (pe_revTK (K := K) rfl (pv 1))))), fun W es P hC => ?_⟩
  obtain ⟨n, r, rfl, ho, q⟩ := hC
  try dsimp only [cx_K, cx_w]
  walk_at "ka"
  refine ⟨n, r, rfl, ho, ?_⟩
  walk_at "ka"
  rw [intsD_rev]
  exact ⟨Wd.Le.refl W, q⟩

/-- the row behind the exchange at i -/
def exch (r : List Int) (i : Nat) : List Int := r.take i ++ [r.getD (i + 1) 0, r.getD i 0] ++ r.drop (i + 2)
theorem getD_get {r : List Int} {i : Nat} (h : i < r.length) : r[i]? = some (r.getD i 0) := by
  rw [List.getD_eq_getElem?_getD, List.getElem?_eq_getElem h]
  rfl
theorem ints_erase : ∀ (l : List Int) (k : Nat), (intsD l).eraseIdx k = intsD (l.eraseIdx k)
  | [], _ => rfl
  | _ :: _, 0 => rfl
  | x :: l, k + 1 => congrArg (PyData.int x :: ·) (ints_erase l k)
theorem erase_perm : ∀ {l : List Int} {k : Nat} (h : k < l.length), (l[k] :: l.eraseIdx k).Perm l
  | x :: l, 0, _ => List.Perm.refl _
  | x :: l, k + 1, h => (List.Perm.swap _ _ _).trans ((erase_perm (l := l) (k := k) (by simpa using h)).cons x)
theorem split_at {r : List Int} {i : Nat} (h : i + 1 < r.length) : r.take i ++ ([r.getD i 0, r.getD (i + 1) 0] ++ r.drop (i + 2)) = r := by
  have e : r.drop i = [r.getD i 0, r.getD (i + 1) 0] ++ r.drop (i + 2) := by
    rw [List.drop_eq_getElem_cons (by omega), List.drop_eq_getElem_cons h]
    simp [List.getD_eq_getElem?_getD, List.getElem?_eq_getElem h, List.getElem?_eq_getElem (show i < r.length by omega)]
  rw [← e, List.take_append_drop]
theorem exch_perm {r : List Int} {i : Nat} (h : i + 1 < r.length) : (exch r i).Perm r := by
  have e := split_at h
  unfold exch
  rw [List.append_assoc]
  refine List.Perm.trans (List.Perm.append_left _ (List.Perm.append_right _ (List.Perm.swap _ _ []))) ?_
  rw [e]
theorem RowOk.of_perm {n : Int} {r s : List Int} (h : RowOk n r) (p : s.Perm r) : RowOk n s := ⟨p.trans h.perm, h.lo, h.hi⟩
theorem RowOk.exch {n : Int} {r : List Int} (h : RowOk n r) {i : Nat} (hi : (i : Int) ≤ n - 2) : RowOk n (exch r i) := h.of_perm (exch_perm (by have := h.len; omega))
theorem RowOk.rev {n : Int} {r : List Int} (h : RowOk n r) : RowOk n r.reverse := h.of_perm (List.reverse_perm r)
theorem RowOk.first {n : Int} (h1 : 0 ≤ n) (h2 : n ≤ 60) : RowOk n (rgN 1 n.toNat) := ⟨List.Perm.refl _, h1, h2⟩
theorem RowOk.apart {n : Int} {r : List Int} (h : RowOk n r) {i : Nat} (hi : i + 1 < r.length) : r.getD i 0 ≠ r.getD (i + 1) 0 := by
  rw [List.getD_eq_getElem?_getD, List.getD_eq_getElem?_getD, List.getElem?_eq_getElem (by omega), List.getElem?_eq_getElem hi]
  exact List.pairwise_iff_getElem.mp h.nodup i (i + 1) (by omega) hi (by omega)

def C_exchanged : Con := fun _ es P => ∃ n r, ∃ i : Nat, es = [.dat (.int n), .dat (.tuple (intsD r)), .dat (.int i)] ∧ RowOk n r ∧ (i : Int) ≤ n - 2 ∧ P (.dat (.tuple (intsD (exch r i))))
theorem ok_exchanged (T : Tx K mg) : FnOk P w K mg base CX0 5 T.f_exchanged T.d_exchanged ["n", "row", "i"] (SpC K C_exchanged) := by
  refine kfn T.F_exchanged sc_exchanged (fun W es P ⟨_, _, _, h, _⟩ => by rw [h]; rfl) fun cdv A outer s H E hr => ⟨_, (pss_cons (ps_expr (pe_call (ok_check_row T) hr (by rfl) T.g_check_row T.F_check_row.kp T.b_check_row .nil pass0 (pa_cons (pv 0) (pa_cons (pv 1) pa_nil))))
      (pss_cons (ps_expr (pe_call (ok_check_place T) (hr.mono (by decide)) (by rfl) T.g_check_place T.F_check_place.kp T.b_check_place .nil pass0 (pa_cons (pv 0) (pa_cons (pv 2) pa_nil))))
      (pss_one (ps_ret (pe_op (op_addK (K := K) rfl) (pe_op (op_addK (K := K) rfl) (pe_slice (sl_K (K := K) rfl) (pv 1) po_none (po_some (pv 2))) (pe_tup (pa_cons (pe_ix (ix_K (K := K) rfl) (pv 1) (pe_op (op_addK (K := K) rfl) (pv 2) pe_int) (fun _ _ => rfl)) (pa_cons (pe_ix (ix_K (K := K) rfl) (pv 1) (pv 2) (fun _ _ => rfl)) pa_nil)))) (pe_slice (sl_K (K := K) rfl) (pv 1) (po_some (pe_op (op_addK (K := K) rfl) (pv 2) pe_int)) po_none)))))), fun W es P hC => ?_⟩
  obtain ⟨n, r, i, rfl, ho, hi, q⟩ := hC
  have h2 := ho.hi
  have h3 := ho.len
  try dsimp only [cx_K, cx_w]
  walk_at "ka"
  refine ⟨n, r, rfl, ho, ?_⟩
  walk_at "ka"
  refine ⟨n, i, rfl, by omega, hi, ?_⟩
  walk_at "ka"
  rw [show (i : Int) + 1 = ((i + 1 : Nat) : Int) from rfl]
  refine opd_ixT (atI_nat (intsD_get (getD_get (by omega)))) ?_
  walk_at "ka"
  refine opd_ixT (atI_nat (intsD_get (getD_get (by omega)))) ?_
  walk_at "ka"
  rw [cut_to (by omega), show (i : Int).toNat = i from rfl, intsD_take]
  refine opd_addT (by rw [intsD_len, List.length_take]; simp; omega) ?_
  walk_at "ka"
  rw [cut_from (by omega), show ((i : Int) + 2).toNat = i + 2 by omega, intsD_drop]
  refine opd_addT (by rw [List.length_append, intsD_len, intsD_len, List.length_take, List.length_drop]; simp; omega) ⟨Wd.Le.refl W, ?_⟩
  have e : intsD (r.take i) ++ [PyData.int (r.getD (i + 1) 0), .int (r.getD i 0)] ++ intsD (r.drop (i + 2)) = intsD (exch r i) := by
    show intsD (r.take i) ++ intsD [r.getD (i + 1) 0, r.getD i 0] ++ intsD (r.drop (i + 2)) = _
    rw [intsD_append, intsD_append]
    rfl
  rw [e]
  exact q

/-! which number stands before which -/
def bef (l : List Int) (u v : Int) : Prop := ∃ x y : Nat, x < y ∧ l[x]? = some u ∧ l[y]? = some v
theorem bef_sub {u v : Int} : ∀ {l : List Int}, [u, v].Sublist l ↔ bef l u v
  | [] => by
    constructor
    · intro h
      cases h
    · rintro ⟨x, y, _, h, _⟩
      simp at h
  | a :: l => by
    constructor
    · intro h
      rcases List.sublist_cons_iff.mp h with h | ⟨r, e, h⟩
      · obtain ⟨x, y, h1, h2, h3⟩ := bef_sub.mp h
        exact ⟨x + 1, y + 1, by omega, by simpa using h2, by simpa using h3⟩
      · cases e
        obtain ⟨y, hy⟩ := List.getElem?_of_mem (List.singleton_sublist.mp h)
        exact ⟨0, y + 1, by omega, rfl, by simpa using hy⟩
    · rintro ⟨x, y, h1, h2, h3⟩
      obtain ⟨y, rfl⟩ : ∃ y', y = y' + 1 := ⟨y - 1, by omega⟩
      cases x with
      | zero =>
        simp only [List.getElem?_cons_zero, Option.some.injEq] at h2
        rw [h2]
        exact (List.singleton_sublist.mpr (List.mem_of_getElem? (by simpa using h3))).cons_cons _
      | succ x => exact (bef_sub.mpr ⟨x, y, by omega, by simpa using h2, by simpa using h3⟩).cons _
theorem get_uniq {l : List Int} (h : l.Nodup) {x y : Nat} {u : Int} (h1 : l[x]? = some u) (h2 : l[y]? = some u) : x = y := by
  obtain ⟨a1, a2⟩ := List.getElem?_eq_some_iff.mp h1
  obtain ⟨b1, b2⟩ := List.getElem?_eq_some_iff.mp h2
  rcases Nat.lt_trichotomy x y with c | c | c
  · exact absurd (a2.trans b2.symm) (List.pairwise_iff_getElem.mp h x y a1 b1 c)
  · exact c
  · exact absurd (b2.trans a2.symm) (List.pairwise_iff_getElem.mp h y x b1 a1 c)
theorem bef_trans {l : List Int} (h : l.Nodup) {u v t : Int} (h1 : bef l u v) (h2 : bef l v t) : bef l u t := by
  obtain ⟨x, y, a1, a2, a3⟩ := h1
  obtain ⟨y', z, b1, b2, b3⟩ := h2
  have := get_uniq h a3 b2
  exact ⟨x, z, by omega, a2, b3⟩
theorem bef_anti {l : List Int} (h : l.Nodup) {u v : Int} (h1 : bef l u v) (h2 : bef l v u) : False := by
  obtain ⟨x, y, a1, a2, a3⟩ := h1
  obtain ⟨y', x', b1, b2, b3⟩ := h2
  have := get_uniq h a3 b2
  have := get_uniq h a2 b3
  omega
theorem bef_tri {l : List Int} {u v : Int} (h1 : u ∈ l) (h2 : v ∈ l) (hne : u ≠ v) : bef l u v ∨ bef l v u := by
  obtain ⟨x, hx⟩ := List.getElem?_of_mem h1
  obtain ⟨y, hy⟩ := List.getElem?_of_mem h2
  rcases Nat.lt_trichotomy x y with c | c | c
  · exact .inl ⟨x, y, c, hx, hy⟩
  · rw [c, hy] at hx
    exact absurd (Option.some.inj hx).symm hne
  · exact .inr ⟨y, x, c, hy, hx⟩
/-- the row is told by which pairs are turned -/
theorem rows_by_turned {n : Int} {r s : List Int} (hr : RowOk n r) (hs : RowOk n s) (h : ∀ p q, p < q → (bef r q p ↔ bef s q p)) : r = s := by
  have all : ∀ u v, bef s u v → bef r u v := fun u v b => by
    have mu : u ∈ s := by obtain ⟨x, y, _, e, _⟩ := b; exact List.mem_of_getElem? e
    have mv : v ∈ s := by obtain ⟨x, y, _, _, e⟩ := b; exact List.mem_of_getElem? e
    rcases Int.lt_trichotomy u v with c | c | c
    · rcases bef_tri (l := r) (hr.mem.mpr (hs.mem.mp mu)) (hr.mem.mpr (hs.mem.mp mv)) (by omega) with z | z
      · exact z
      · exact (bef_anti hs.nodup b ((h u v c).mp z)).elim
    · rw [c] at b
      exact (bef_anti hs.nodup b b).elim
    · exact (h v u c).mpr b
  have pw : ∀ l : List Int, l.Pairwise (bef l) := fun l => List.pairwise_iff_getElem.mpr fun i j hi hj c => ⟨i, j, c, List.getElem?_eq_getElem hi, List.getElem?_eq_getElem hj⟩
  exact List.Perm.eq_of_pairwise (le := bef r) (fun a b _ _ h1 h2 => (bef_anti hr.nodup h1 h2).elim) (pw r) ((pw s).imp fun z => all _ _ z) (hr.perm.trans hs.perm.symm)

/-! the least row above two rows -/
def tur (r : List Int) (p q : Int) : Prop := p < q ∧ bef r q p
inductive Ch (R : Int → Int → Prop) : Int → Int → Prop
  | one {a b : Int} : R a b → Ch R a b
  | more {a b c : Int} : Ch R a b → R b c → Ch R a c
theorem Ch.trans {R : Int → Int → Prop} {a b c : Int} (h : Ch R a b) (h2 : Ch R b c) : Ch R a c := by
  induction h2 with
  | one h2 => exact .more h h2
  | more _ h3 ih => exact .more ih h3
theorem Ch.lt {R : Int → Int → Prop} (hR : ∀ a b, R a b → a < b) {a b : Int} (h : Ch R a b) : a < b := by
  induction h with
  | one h => exact hR _ _ h
  | more _ h3 ih => exact Int.lt_trans ih (hR _ _ h3)
theorem Ch.mono {R S : Int → Int → Prop} (hR : ∀ a b, R a b → Ch S a b) {a b : Int} (h : Ch R a b) : Ch S a b := by
  induction h with
  | one h => exact hR _ _ h
  | more _ h3 ih => exact ih.trans (hR _ _ h3)
theorem bef_mem {r : List Int} {u v : Int} (h : bef r u v) : u ∈ r ∧ v ∈ r := by
  obtain ⟨x, y, _, a, b⟩ := h
  exact ⟨List.mem_of_getElem? a, List.mem_of_getElem? b⟩
theorem tur_trans {n : Int} {r : List Int} (hr : RowOk n r) {a b c : Int} (h1 : tur r a b) (h2 : tur r b c) : tur r a c :=
  ⟨Int.lt_trans h1.1 h2.1, bef_trans hr.nodup h2.2 h1.2⟩
theorem tur_co {n : Int} {r : List Int} (hr : RowOk n r) {a b c : Int} (hab : a < b) (hbc : b < c) (h : tur r a c) : tur r a b ∨ tur r b c := by
  obtain ⟨m1, m2⟩ := bef_mem h.2
  have ma := hr.mem.mp m2
  have mc := hr.mem.mp m1
  have mb : b ∈ r := hr.mem.mpr ⟨by omega, by omega⟩
  rcases bef_tri mb m2 (by omega) with z | z
  · exact .inl ⟨hab, z⟩
  · exact .inr ⟨hbc, bef_trans hr.nodup h.2 z⟩
theorem tur_rg {n : Int} {r : List Int} (hr : RowOk n r) {a b : Int} (h : tur r a b) : 1 ≤ a ∧ a < b ∧ b ≤ n := by
  obtain ⟨m1, m2⟩ := bef_mem h.2
  have ma := hr.mem.mp m2
  have mc := hr.mem.mp m1
  exact ⟨ma.1, h.1, mc.2⟩
/-- a set of pairs that is that of the turned pairs of a row -/
structure Clo (n : Int) (T : Int → Int → Prop) : Prop where
  rg : ∀ a b, T a b → 1 ≤ a ∧ a < b ∧ b ≤ n
  tr : ∀ a b c, T a b → T b c → T a c
  co : ∀ a b c, a < b → b < c → T a c → T a b ∨ T b c
theorem tur_clo {n : Int} {r : List Int} (hr : RowOk n r) : Clo n (tur r) := ⟨fun _ _ h => tur_rg hr h, fun _ _ _ h1 h2 => tur_trans hr h1 h2, fun _ _ _ h1 h2 h => tur_co hr h1 h2 h⟩
theorem ch_clo {n : Int} {T S : Int → Int → Prop} (hT : Clo n T) (hS : Clo n S) : Clo n (Ch fun a b => T a b ∨ S a b) := by
  have hrg : ∀ a b, T a b ∨ S a b → 1 ≤ a ∧ a < b ∧ b ≤ n := fun a b h => h.elim (hT.rg a b) (hS.rg a b)
  refine ⟨fun a b h => ?_, fun a b c h1 h2 => h1.trans h2, fun a b c hab hbc h => ?_⟩
  · induction h with
    | one h => exact hrg _ _ h
    | more _ h3 ih =>
      have := hrg _ _ h3
      omega
  · induction h with
    | one h =>
      rcases h with h | h
      · exact (hT.co _ _ _ hab hbc h).imp (fun z => .one (.inl z)) fun z => .one (.inl z)
      · exact (hS.co _ _ _ hab hbc h).imp (fun z => .one (.inr z)) fun z => .one (.inr z)
    | @more d c h1 h3 ih =>
      rcases Int.lt_trichotomy b d with z | z | z
      · rcases ih z with y | y
        · exact .inl y
        · exact .inr (.more y h3)
      · subst z
        exact .inl h1
      · have : T d b ∨ S d b ∨ T b c ∨ S b c := by
          rcases h3 with h | h
          · exact (hT.co _ _ _ z hbc h).elim (fun q => .inl q) fun q => .inr (.inr (.inl q))
          · exact (hS.co _ _ _ z hbc h).elim (fun q => .inr (.inl q)) fun q => .inr (.inr (.inr q))
        rcases this with q | q | q | q
        · exact .inl (.more h1 (.inl q))
        · exact .inl (.more h1 (.inr q))
        · exact .inr (.one (.inl q))
        · exact .inr (.one (.inr q))
/-- u stands before v -/
def pre (T : Int → Int → Prop) (u v : Int) : Prop := (u < v ∧ ¬ T u v) ∨ (v < u ∧ T v u)
theorem pre_tri {T : Int → Int → Prop} {u v : Int} (h : u ≠ v) : pre T u v ∨ pre T v u := by
  unfold pre
  by_cases a : T u v <;> by_cases b : T v u <;> rcases Int.lt_or_gt_of_ne h with c | c <;> simp [a, b, c]
theorem pre_anti {T : Int → Int → Prop} {u v : Int} (h : pre T u v) (h2 : pre T v u) : False := by
  rcases h with ⟨a, b⟩ | ⟨a, b⟩ <;> rcases h2 with ⟨c, d⟩ | ⟨c, d⟩
  · omega
  · exact b d
  · exact d b
  · omega
theorem pre_trans {n : Int} {T : Int → Int → Prop} (hT : Clo n T) {u v w : Int} (h : pre T u v) (h2 : pre T v w) : pre T u w := by
  rcases h with ⟨a, b⟩ | ⟨a, b⟩ <;> rcases h2 with ⟨c, d⟩ | ⟨c, d⟩
  · exact .inl ⟨by omega, fun z => (hT.co u v w a c z).elim b d⟩
  · rcases Int.lt_trichotomy u w with e | e | e
    · exact .inl ⟨e, fun z => b (hT.tr _ _ _ z d)⟩
    · subst e
      exact (b d).elim
    · exact .inr ⟨e, (hT.co w u v e a d).elim id fun z => (b z).elim⟩
  · rcases Int.lt_trichotomy u w with e | e | e
    · exact .inl ⟨e, fun z => d (hT.tr _ _ _ b z)⟩
    · subst e
      exact (d b).elim
    · exact .inr ⟨e, (hT.co v w u c e b).elim (fun z => (d z).elim) id⟩
  · exact .inr ⟨by omega, hT.tr _ _ _ d b⟩
theorem count_lt {α : Type} {p q : α → Bool} : ∀ {l : List α}, (∀ x ∈ l, p x = true → q x = true) → (∃ x ∈ l, q x = true ∧ p x = false) → l.countP p < l.countP q
  | [], _, h => by
    obtain ⟨x, m, _⟩ := h
    cases m
  | y :: l, h, h2 => by
    have le : l.countP p ≤ l.countP q := List.countP_mono_left fun x m => h x (List.mem_cons_of_mem _ m)
    rw [List.countP_cons, List.countP_cons]
    by_cases c : ∃ x ∈ l, q x = true ∧ p x = false
    · have := count_lt (fun x m => h x (List.mem_cons_of_mem _ m)) c
      by_cases e : p y = true
      · rw [if_pos e, if_pos (h y (by simp) e)]
        omega
      · rw [if_neg e]
        split <;> omega
    · obtain ⟨x, m, h3, h4⟩ := h2
      rcases List.mem_cons.mp m with rfl | m
      · rw [if_pos h3, if_neg (by rw [h4]; decide)]
        omega
      · exact absurd ⟨x, m, h3, h4⟩ c
open Classical in
/-- how many numbers stand ahead of p -/
noncomputable def placeT (n : Int) (T : Int → Int → Prop) (p : Int) : Nat := (rgN 1 n.toNat).countP fun x => decide (pre T x p)
open Classical in
theorem place_lt {n : Int} {T : Int → Int → Prop} (hT : Clo n T) {u v : Int} (hu : 1 ≤ u ∧ u ≤ n) (h : pre T u v) : placeT n T u < placeT n T v := by
  unfold placeT
  refine count_lt (fun x _ hx => ?_) ⟨u, rgN_mem.mpr (by omega), decide_eq_true h, decide_eq_false fun z => pre_anti z z⟩
  exact decide_eq_true (pre_trans hT (of_decide_eq_true hx) h)
noncomputable def turnR (n : Int) (T : Int → Int → Prop) : List Int := (rgN 1 n.toNat).mergeSort fun a b => decide (placeT n T a ≤ placeT n T b)
theorem turnR_ok {n : Int} {T : Int → Int → Prop} (h0 : 0 ≤ n) (h1 : n ≤ 60) : RowOk n (turnR n T) := ⟨List.mergeSort_perm _ _, h0, h1⟩
theorem turnR_pw {n : Int} {T : Int → Int → Prop} : (turnR n T).Pairwise fun a b => placeT n T a ≤ placeT n T b := by
  have := List.pairwise_mergeSort (le := fun a b : Int => decide (placeT n T a ≤ placeT n T b)) (by intro a b c; simp; omega) (by intro a b; simp; omega) (rgN 1 n.toNat)
  exact this.imp fun h => of_decide_eq_true h
theorem turnR_tur {n : Int} {T : Int → Int → Prop} (hT : Clo n T) (h0 : 0 ≤ n) (h1 : n ≤ 60) (p q : Int) : tur (turnR n T) p q ↔ T p q := by
  have ok := turnR_ok (T := T) h0 h1
  have key : ∀ u v, bef (turnR n T) u v → pre T u v := fun u v h => by
    obtain ⟨m1, m2⟩ := bef_mem h
    obtain ⟨x, y, hxy, e1, e2⟩ := h
    obtain ⟨l1, g1⟩ := List.getElem?_eq_some_iff.mp e1
    obtain ⟨l2, g2⟩ := List.getElem?_eq_some_iff.mp e2
    have le := List.pairwise_iff_getElem.mp (turnR_pw (n := n) (T := T)) x y l1 l2 hxy
    have ne := List.pairwise_iff_getElem.mp ok.nodup x y l1 l2 hxy
    rw [g1, g2] at le ne
    rcases pre_tri (T := T) ne with z | z
    · exact z
    · have := place_lt hT (ok.mem.mp m2) z
      omega
  constructor
  · rintro ⟨hpq, h⟩
    rcases key _ _ h with ⟨c, _⟩ | ⟨_, z⟩
    · omega
    · exact z
  · intro h
    obtain ⟨a, b, c⟩ := hT.rg p q h
    refine ⟨b, ?_⟩
    rcases bef_tri (l := turnR n T) (ok.mem.mpr ⟨by omega, c⟩) (ok.mem.mpr ⟨a, by omega⟩) (by omega : q ≠ p) with z | z
    · exact z
    · rcases key _ _ z with ⟨_, d⟩ | ⟨d, _⟩
      · exact (d h).elim
      · omega
/-- t is the least row above r and s -/
def IsLub (r s t : List Int) : Prop := ∀ p q, tur t p q ↔ Ch (fun a b => tur r a b ∨ tur s a b) p q
theorem lub_ex {n : Int} {r s : List Int} (hr : RowOk n r) (hs : RowOk n s) : ∃ t, RowOk n t ∧ IsLub r s t :=
  ⟨turnR n _, turnR_ok hr.lo hr.hi, turnR_tur (ch_clo (tur_clo hr) (tur_clo hs)) hr.lo hr.hi⟩
theorem tur_unique {n : Int} {r s : List Int} (hr : RowOk n r) (hs : RowOk n s) (h : ∀ p q, tur r p q ↔ tur s p q) : r = s :=
  rows_by_turned hr hs fun p q c => ⟨fun z => ((h p q).mp ⟨c, z⟩).2, fun z => ((h p q).mpr ⟨c, z⟩).2⟩
/-- r is below s -/
def LeR (r s : List Int) : Prop := ∀ p q, tur r p q → tur s p q
theorem LeR.refl (r : List Int) : LeR r r := fun _ _ h => h
theorem LeR.trans {r s t : List Int} (h : LeR r s) (h2 : LeR s t) : LeR r t := fun p q z => h2 p q (h p q z)
theorem LeR.anti {n : Int} {r s : List Int} (hr : RowOk n r) (hs : RowOk n s) (h : LeR r s) (h2 : LeR s r) : r = s := tur_unique hr hs fun p q => ⟨h p q, h2 p q⟩
theorem IsLub.left {r s t : List Int} (h : IsLub r s t) : LeR r t := fun p q z => (h p q).mpr (.one (.inl z))
theorem IsLub.right {r s t : List Int} (h : IsLub r s t) : LeR s t := fun p q z => (h p q).mpr (.one (.inr z))
theorem IsLub.least {n : Int} {r s t u : List Int} (hu : RowOk n u) (h : IsLub r s t) (h1 : LeR r u) (h2 : LeR s u) : LeR t u := fun p q z => by
  have := (h p q).mp z
  clear z
  induction this with
  | one h => exact h.elim (h1 _ _) (h2 _ _)
  | more _ h3 ih => exact tur_trans hu ih (h3.elim (h1 _ _) (h2 _ _))
/-- the least row above two rows is told by what it is for -/
theorem isLub_of {n : Int} {r s t : List Int} (hr : RowOk n r) (hs : RowOk n s) (ht : RowOk n t) (h1 : LeR r t) (h2 : LeR s t) (h3 : ∀ u, RowOk n u → LeR r u → LeR s u → LeR t u) : IsLub r s t := by
  obtain ⟨u, hu, l⟩ := lub_ex hr hs
  have e : t = u := LeR.anti ht hu (h3 u hu l.left l.right) (l.least ht h1 h2)
  rw [e]
  exact l
theorem IsLub.comm {r s t : List Int} (h : IsLub r s t) : IsLub s r t := fun p q => (h p q).trans ⟨Ch.mono fun _ _ z => .one z.symm, Ch.mono fun _ _ z => .one z.symm⟩
theorem rev_bef {l : List Int} {u v : Int} : bef l.reverse u v ↔ bef l v u := by
  have go : ∀ {l : List Int} {u v : Int}, bef l.reverse u v → bef l v u := fun {l u v} h => by
    have := (bef_sub.mpr h).reverse
    rw [List.reverse_reverse] at this
    exact bef_sub.mp this
  exact ⟨go, fun h => go (by rw [List.reverse_reverse]; exact h)⟩
/-- in the mirror just those pairs are turned that are not turned in the row -/
theorem rev_tur {n : Int} {r : List Int} (hr : RowOk n r) {p q : Int} (h1 : 1 ≤ p) (h2 : p < q) (h3 : q ≤ n) : tur r.reverse p q ↔ ¬ tur r p q := by
  unfold tur
  rw [rev_bef]
  constructor
  · rintro ⟨_, b⟩ ⟨_, b2⟩
    exact bef_anti hr.nodup b b2
  · intro h
    refine ⟨h2, (bef_tri (hr.mem.mpr ⟨by omega, h3⟩) (hr.mem.mpr ⟨h1, by omega⟩) (by omega : q ≠ p)).elim (fun z => (h ⟨h2, z⟩).elim) id⟩
theorem rev_le {n : Int} {r s : List Int} (hr : r.Perm (rgN 1 n.toNat) ∧ 0 ≤ n ∧ n ≤ 60) (hs : RowOk n s) (h : LeR r s) : LeR s.reverse r.reverse := fun p q z => by
  have hr : RowOk n r := ⟨hr.1, hr.2.1, hr.2.2⟩
  have hs' : RowOk n s.reverse := ⟨(List.reverse_perm s).trans hs.perm, hs.lo, hs.hi⟩
  obtain ⟨a, b, c⟩ := tur_rg hs' z
  exact (rev_tur hr a b c).mpr fun y => (rev_tur hs a b c).mp z (h p q y)

def PairL (ds : List PyData) : Prop := ∀ d ∈ ds, ∃ a b, d = pairD a b
theorem pair_key {a b : Int} : TupKey (pairD a b) := by
  refine ⟨⟨_, rfl⟩, by simp [pairD, okKey, okKeys], ?_⟩
  simp [pairD, kd, kds, NestedKey.depth, NestedKey.depthAll]
/-- whether the data has it -/
def hasD (ds : List PyData) (d : PyData) : Bool := decide (kd d ∈ ds.map kd)
theorem pair_kd {a b c d : Int} : kd (pairD a b) = kd (pairD c d) ↔ a = c ∧ b = d := by
  simp [pairD, kd, kds]
theorem hasD_pair {ds : List PyData} (h : PairL ds) {a b : Int} : hasD ds (pairD a b) = true ↔ pairD a b ∈ ds := by
  unfold hasD
  rw [decide_eq_true_iff, List.mem_map]
  constructor
  · rintro ⟨d, m, e⟩
    obtain ⟨x, y, rfl⟩ := h d m
    obtain ⟨rfl, rfl⟩ := pair_kd.mp e
    exact m
  · exact fun m => ⟨_, m, rfl⟩
def C_pairs_only_in : Con := fun _ es P => ∃ xs ys, es = [.dat (.tuple xs), .dat (.tuple ys)] ∧ PairL xs ∧ PairL ys ∧ xs.length ≤ 50000 ∧ ys.length < 1000 ∧ P (.dat (.list (xs.filter fun d => !hasD ys d)))
theorem ok_pairs_only_in (T : Tx K mg) : FnOk P w K mg base CX0 1 T.f_pairs_only_in T.d_pairs_only_in ["pairs", "others"] (SpC K C_pairs_only_in) := by
  refine kfn T.F_pairs_only_in sc_pairs_only_in (fun W es P ⟨_, _, h, _⟩ => by rw [h]; rfl) fun cdv A outer s H E hr => ⟨_, (pss_cons (ps_set (i := 2) sc_pairs_only_in.nd rfl (by first | exact Or.inl rfl | exact Or.inr rfl) (pe_callTy (cr_setX (K := K) (w := w) rfl rfl rfl hr.units) (by rfl) T.m_set (by decide +kernel) (pa_cons (pv 1) pa_nil)))
      (pss_one (ps_ret (pe_lc (own := [("pair", 3)]) rfl sc_pairs_only_in.nd (pi_seqK (K := K) rfl (pv 0)) (blkOk_by (N := N_pairs_only_in) (sc := defScope s_pairs_only_in) (by decide +kernel)) (fun _ _ _ _ _ => (pg_name (i := 3) sc_pairs_only_in.nd rfl (by first | exact Or.inl rfl | exact Or.inr rfl))) (fun _ _ _ _ _ => (pts_one (pt_cmpR (op_notInZ (P := P) (w := w) (K := K) rfl rfl rfl (hu65 hr)) (pv 3) (pv 2) (by rfl)))) (fun _ _ _ _ _ => (pv 3)))))), fun W es P hC => ?_⟩
  obtain ⟨xs, ys, rfl, hx, hy, zx, zy, q⟩ := hC
  try dsimp only [cx_K, cx_w]
  walk_at "ka"
  refine cal_setT (fun d m => ?_) zy ?_
  · obtain ⟨a, b, rfl⟩ := hy d m
    exact pair_key
  walk_at "ka"
  refine de_lcM xs DV.dat (fun d => !hasD ys d) (fun d => d) (di_seqT ?_) zx ?_ ?_
  · walk_at "ka"
    rfl
  · intro d m W' hW
    refine ⟨_, _, tg_name, by simp, ?_⟩
    walk_at "ka"
    obtain ⟨a, b, rfl⟩ := hx d m
    refine opd_niZS pair_key ⟨_, rfl, rfl, fun _ => ?_⟩
    walk_at "ka"
    rfl
  · rw [List.map_id'']
    · exact ⟨Wd.Le.refl W, q⟩
    · exact fun _ => rfl

/-! how row_turning finds it -/
theorem rgN_split {lo : Int} {m k : Nat} : rgN lo (m + k) = rgN lo m ++ rgN (lo + m) k := by
  induction k with
  | zero => rw [Nat.add_zero]; unfold rgN; simp
  | succ k ih =>
    rw [← Nat.add_assoc, rgN_succ, rgN_succ, ih, List.append_assoc]
    congr 3
    omega
open Classical in
theorem place_split {n : Int} {T : Int → Int → Prop} {p : Int} (h1 : 1 ≤ p) (h2 : p ≤ n) (f : Int → Bool) (g : Int → Bool) (hf : ∀ a, 1 ≤ a → a < p → (f a = true ↔ ¬ T a p)) (hg : ∀ b, p < b → b ≤ n → (g b = true ↔ T p b)) :
    placeT n T p = ((rgN 1 (p - 1).toNat).filter f).length + ((rgN (p + 1) (n - p).toNat).filter g).length := by
  have e : n.toNat = (p - 1).toNat + (1 + (n - p).toNat) := by omega
  unfold placeT
  rw [e, rgN_split, rgN_split, List.countP_append, List.countP_append, show (1 : Int) + ((p - 1).toNat : Int) = p by omega, show p + ((1 : Nat) : Int) = p + 1 by omega]
  have z : (rgN p 1).countP (fun x => decide (pre T x p)) = 0 := by
    rw [List.countP_eq_zero]
    intro x hx
    rw [rgN_mem] at hx
    have : x = p := by omega
    subst this
    simp only [decide_eq_true_eq]
    exact fun z => pre_anti z z
  rw [z, Nat.zero_add, List.countP_eq_length_filter, List.countP_eq_length_filter]
  congr 2
  · refine List.filter_congr fun x hx => ?_
    rw [rgN_mem] at hx
    rw [Bool.eq_iff_iff, decide_eq_true_iff, hf x (by omega) (by omega)]
    unfold pre
    constructor
    · rintro (⟨_, z⟩ | ⟨z, _⟩)
      · exact z
      · omega
    · exact fun z => .inl ⟨by omega, z⟩
  · refine List.filter_congr fun x hx => ?_
    rw [rgN_mem] at hx
    rw [Bool.eq_iff_iff, decide_eq_true_iff, hg x (by omega) (by omega)]
    unfold pre
    constructor
    · rintro (⟨z, _⟩ | ⟨_, z⟩)
      · omega
      · exact z
    · exact fun z => .inr ⟨by omega, z⟩
noncomputable def placesD (n : Int) (T : Int → Int → Prop) (l : List Int) : List PyData := l.map fun p => pairD (placeT n T p) p
theorem pairs_alike (f : Int → Int) (l : List Int) : PySem.W.AllAlike (l.map fun p => pairD (f p) p) := fun x hx y hy => by
  obtain ⟨_, _, rfl⟩ := List.mem_map.mp hx
  obtain ⟨_, _, rfl⟩ := List.mem_map.mp hy
  exact pair_alike
theorem pairs_sortable (f : Int → Int) (l : List Int) : PySem.W.Sortable (l.map fun p => pairD (f p) p) := .inl fun x hx => by
  obtain ⟨a, _, rfl⟩ := List.mem_map.mp hx
  exact ⟨_, _, rfl⟩
theorem pairs_dep (f : Int → Int) (l : List Int) : ∀ x ∈ l.map (fun p => pairD (f p) p), x.depth ≤ 60 := fun x hx => by
  obtain ⟨a, _, rfl⟩ := List.mem_map.mp hx
  show (PyData.tuple [.int _, .int _]).depth ≤ 60
  simp [PyData.depth, PyData.depthAll]
theorem pair_toks {a b c d : Int} (h : PySem.W.keyToks (pairD a b) = PySem.W.keyToks (pairD c d)) : a = c ∧ b = d := by
  have := toks_tupI (S := [a, b]) (R := [c, d]) h
  simpa using this
theorem pair_le {a b c d : Int} (h : a < c ∨ (a = c ∧ b ≤ d)) : PySem.W.dataLe false id (pairD a b) (pairD c d) = true := by
  have e := congrFun (congrFun (PySem.W.dataLe_ii (β := Int × Int) (fun x => x.1) (fun x => x.2)) (a, b)) (c, d)
  show PySem.W.dataLe false (fun x : Int × Int => .tuple [.int x.1, .int x.2]) (a, b) (c, d) = true
  rw [e]
  exact decide_eq_true h
theorem places_sorted {n : Int} {T : Int → Int → Prop} (hT : Clo n T) (h0 : 0 ≤ n) (h1 : n ≤ 60) : (placesD n T (rgN 1 n.toNat)).mergeSort (PySem.W.dataLe false id) = placesD n T (turnR n T) := by
  have ok := turnR_ok (T := T) h0 h1
  refine sort_is (ok.perm.symm.map _) (fun a ha b hb e => ?_) ?_
  · obtain ⟨i, _, rfl⟩ := List.mem_map.mp ha
    obtain ⟨j, _, rfl⟩ := List.mem_map.mp hb
    rw [(pair_toks e).2]
  · unfold placesD
    refine List.pairwise_map.mpr ?_
    refine ((turnR_pw (n := n) (T := T)).and ok.nodup).imp_of_mem fun {a b} ma mb h => pair_le (.inl ?_)
    obtain ⟨le, ne⟩ := h
    rcases pre_tri (T := T) ne with z | z
    · have := place_lt hT (ok.mem.mp ma) z
      omega
    · have := place_lt hT (ok.mem.mp mb) z
      omega
/-- what the chains through numbers to k bring -/
inductive Via (R : Int → Int → Prop) (k : Int) : Int → Int → Prop
  | one {a b : Int} : R a b → Via R k a b
  | more {a b c : Int} : Via R k a b → b ≤ k → R b c → Via R k a c
theorem Via.lt {R : Int → Int → Prop} {k : Int} (hR : ∀ a b, R a b → a < b) {a b : Int} (h : Via R k a b) : a < b := by
  induction h with
  | one h => exact hR _ _ h
  | more _ _ h3 ih => exact Int.lt_trans ih (hR _ _ h3)
theorem Via.mono {R : Int → Int → Prop} {k j : Int} (hk : k ≤ j) {a b : Int} (h : Via R k a b) : Via R j a b := by
  induction h with
  | one h => exact .one h
  | more _ h2 h3 ih => exact .more ih (Int.le_trans h2 hk) h3
theorem Via.join {R : Int → Int → Prop} {k a b c : Int} (h : Via R k a b) (hb : b ≤ k) (h2 : Via R k b c) : Via R k a c := by
  induction h2 with
  | one h2 => exact .more h hb h2
  | more _ h3 h4 ih => exact .more ih h3 h4
theorem Via.lo {R : Int → Int → Prop} {k : Int} (hR : ∀ a b, R a b → 1 ≤ a) {a b : Int} (h : Via R k a b) : 1 ≤ a := by
  induction h with
  | one h => exact hR _ _ h
  | more _ _ _ ih => exact ih
theorem via_step {R : Int → Int → Prop} (hR : ∀ a b, R a b → a < b) {k a c : Int} : Via R (k + 1) a c ↔ Via R k a c ∨ (Via R k a (k + 1) ∧ Via R k (k + 1) c) := by
  constructor
  · intro h
    induction h with
    | one h => exact .inl (.one h)
    | @more b c h1 h2 h3 ih =>
      rcases Int.lt_or_eq_of_le h2 with z | rfl
      · rcases ih with y | ⟨y, x⟩
        · exact .inl (.more y (by omega) h3)
        · exact .inr ⟨y, .more x (by omega) h3⟩
      · rcases ih with y | ⟨y, x⟩
        · exact .inr ⟨y, .one h3⟩
        · have := x.lt hR
          omega
  · rintro (h | ⟨h1, h2⟩)
    · exact h.mono (by omega)
    · exact (h1.mono (by omega)).join (Int.le_refl _) (h2.mono (by omega))
theorem via_ch {R : Int → Int → Prop} {n : Int} (hR : ∀ a b, R a b → 1 ≤ a ∧ a < b ∧ b ≤ n) {a c : Int} : Via R (n - 1) a c ↔ Ch R a c := by
  constructor
  · intro h
    induction h with
    | one h => exact .one h
    | more _ _ h3 ih => exact .more ih h3
  · intro h
    induction h with
    | one h => exact .one h
    | more _ h3 ih =>
      have := hR _ _ h3
      exact .more ih (by omega) h3
theorem via_one {R : Int → Int → Prop} {n : Int} (hR : ∀ a b, R a b → 1 ≤ a ∧ a < b ∧ b ≤ n) {a c : Int} : Via R 1 a c ↔ R a c := by
  have l1 : ∀ {a b}, Via R 1 a b → 1 ≤ a := fun h => by
    induction h with
    | one h => exact (hR _ _ h).1
    | more _ _ _ ih => exact ih
  constructor
  · intro h
    cases h with
    | one h => exact h
    | more h1 h2 _ =>
      have := h1.lt fun a b z => (hR a b z).2.1
      have := l1 h1
      omega
  · exact .one
theorem getM_nil (k : NestedKey) : getM [] k = none := rfl
theorem getM_put {m : List (PyData × PyData)} {d e : PyData} {k : NestedKey} : (getM (putM m d e) k).isSome = ((getM m k).isSome || decide (kd d = k)) := by
  have base : ∀ (m : List (PyData × PyData)) (k : NestedKey), (getM m k).isSome = m.any fun p => decide (kd p.1 = k) := fun m k => by
    unfold getM
    rw [Option.isSome_map, Bool.eq_iff_iff, List.find?_isSome, List.any_eq_true]
  rw [base, base]
  unfold putM
  split
  · rename_i h
    rw [List.any_map]
    rw [base, List.any_eq_true] at h
    obtain ⟨x, hx, hk⟩ := h
    have hk := of_decide_eq_true hk
    rw [Bool.eq_iff_iff, Bool.or_eq_true, List.any_eq_true, List.any_eq_true, decide_eq_true_iff]
    constructor
    · rintro ⟨p, hp, q⟩
      refine .inl ⟨p, hp, ?_⟩
      simp only [Function.comp] at q
      split at q <;> exact q
    · rintro (⟨p, hp, q⟩ | q)
      · refine ⟨p, hp, ?_⟩
        simp only [Function.comp]
        split <;> exact q
      · refine ⟨x, hx, ?_⟩
        simp only [Function.comp]
        refine decide_eq_true ?_
        rw [if_pos hk, hk]
        exact q
  · rw [List.any_append, List.any_cons, List.any_nil, Bool.or_false]

def C_row_turning (P : Program) (w : World) : Con := fun _ es PX => ∃ (n : Int) (m : List (PyData × PyData)) (T : Int → Int → Prop), es = [.dat (.int n), dicD P w m] ∧ Clo n T ∧ (∀ a b, 1 ≤ a → a < b → b ≤ n → ((getM m (kd (pairD a b))).isSome = true ↔ T a b)) ∧ 0 ≤ n ∧ n ≤ 60 ∧ PX (.dat (.tuple (intsD (turnR n T))))
theorem ok_row_turning (T : Tx K mg) : FnOk P w K mg base CX0 1 T.f_row_turning T.d_row_turning ["n", "turned"] (SpC K (C_row_turning P w)) := by
  refine kfn T.F_row_turning sc_row_turning (fun W es P ⟨_, _, _, h, _⟩ => by rw [h]; rfl) fun cdv A outer s H E hr => ⟨_, (pss_cons (ps_set (i := 2) sc_row_turning.nd rfl (by first | exact Or.inl rfl | exact Or.inr rfl) (pe_lst pa_nil))
      (pss_cons (ps_for PassesOwn.never rfl (pi_range2 rfl T.m_range (pa_cons pe_int (pa_cons (pe_op (op_addK (K := K) rfl) (pv 0) pe_int) pa_nil))) (pg_name (i := 3) sc_row_turning.nd rfl (by first | exact Or.inl rfl | exact Or.inr rfl)) (pss_cons (ps_setLc (i := 4) (own := [("a", 6)]) rfl sc_row_turning.nd rfl rfl (sw_true rfl rfl rfl (by decide +kernel)) (pi_range2 rfl T.m_range (pa_cons pe_int (pa_cons (pv 3) pa_nil))) (blkOk_by (N := N_row_turning) (sc := defScope s_row_turning) (by decide +kernel)) (fun _ _ _ _ _ => (pg_name (i := 6) sc_row_turning.nd rfl (by first | exact Or.inl rfl | exact Or.inr rfl))) (fun _ _ _ _ _ => (pts_one (pt_cmpR (op_notInZ (P := P) (w := w) (K := K) rfl rfl rfl (hu65 hr)) (pe_tup (pa_cons (pv 6) (pa_cons (pv 3) pa_nil))) (pv 1) (by rfl)))) (fun _ _ _ _ _ => (pv 6)))
      (pss_cons (ps_setLc (i := 5) (own := [("b", 7)]) rfl sc_row_turning.nd rfl rfl (sw_true rfl rfl rfl (by decide +kernel)) (pi_range2 rfl T.m_range (pa_cons (pe_op (op_addK (K := K) rfl) (pv 3) pe_int) (pa_cons (pe_op (op_addK (K := K) rfl) (pv 0) pe_int) pa_nil))) (blkOk_by (N := N_row_turning) (sc := defScope s_row_turning) (by decide +kernel)) (fun _ _ _ _ _ => (pg_name (i := 7) sc_row_turning.nd rfl (by first | exact Or.inl rfl | exact Or.inr rfl))) (fun _ _ _ _ _ => (pts_one (pt_cmpR (op_inZ (P := P) (w := w) (K := K) rfl rfl rfl (hu65 hr)) (pe_tup (pa_cons (pv 3) (pa_cons (pv 7) pa_nil))) (pv 1) (by rfl)))) (fun _ _ _ _ _ => (pv 7)))
      (pss_one (ps_expr (pe_bm PySem.F.plainAttrs_list PySem.F.slot_list_append PySem.F.type_list_append mt_append (pv 2) (pa_cons (pe_tup (pa_cons (pe_op (op_addK (K := K) rfl) (pe_callB (cr_lenK (K := K) rfl) (by rfl) T.m_len (by decide +kernel) (pa_cons (pv 4) pa_nil)) (pe_callB (cr_lenK (K := K) rfl) (by rfl) T.m_len (by decide +kernel) (pa_cons (pv 5) pa_nil))) (pa_cons (pv 3) pa_nil))) pa_nil)))))))
      (pss_one (ps_ret (pe_callTy (cr_tupK (K := K) rfl) (by rfl) T.m_tuple (by decide +kernel) (pa_cons (pe_lc (own := [("place", 8), ("p", 3)]) rfl sc_row_turning.nd (pi_seqK (K := K) rfl (pe_callB (cr_sortedZ (K := K) (w := w) rfl rfl rfl hr.units) (by rfl) T.m_sorted (by decide +kernel) (pa_cons (pv 2) pa_nil))) (blkOk_by (N := N_row_turning) (sc := defScope s_row_turning) (by decide +kernel)) (fun _ _ _ _ _ => (pg_tupK (K := K) rfl (pg_tup (n := 2) rfl (pgs_cons (pg_name (i := 8) sc_row_turning.nd rfl (by first | exact Or.inl rfl | exact Or.inr rfl)) (pgs_cons (pg_name (i := 3) sc_row_turning.nd rfl (by first | exact Or.inl rfl | exact Or.inr rfl)) pgs_nil))))) (fun _ _ _ _ _ => pts_nil) (fun _ _ _ _ _ => (pv 3))) pa_nil)))))), fun W es PX hC => ?_⟩
  obtain ⟨n, m, U, rfl, hU, hm, h0, h1, q⟩ := hC
  try dsimp only [cx_K, cx_w]
  refine ds_seq (ds_newL fun p hp => ?_)
  refine ds_seq (ds_for ?_)
  walk_at "ka"
  refine ⟨1, n + 1, rfl, by omega, by omega, fun i W' Δ' => W' = W.hide p (knL K (placesD n U (rgN 1 i))) ∧ ∃ x3 x4 x5, Δ' = [some (.dat (.int n)), some (dicD P w m), some (.raw (.ref p)), x3, x4, x5, none, none, none], ⟨rfl, none, none, none, rfl⟩, ?_, ?_⟩
  · rintro i e W' Δ' he ⟨rfl, x3, x4, x5, rfl⟩
    obtain ⟨hi, rfl⟩ := rgN_at he
    refine ⟨_, _, tg_name, ?_⟩
    refine dq_set ?_
    refine de_lcM (rgN 1 i) (fun a => DV.dat (.int a)) (fun a => !(getM m (kd (pairD a (1 + (i : Int))))).isSome) (fun a => .int a) ?_ (by rw [rgN_length]; omega) ?_ ?_
    · walk_at "ka"
      refine ⟨1, 1 + (i : Int), rfl, by omega, by omega, ?_⟩
      rw [show (1 + (i : Int) - 1).toNat = i by omega]
    · intro a ha W'' hW
      refine ⟨_, _, tg_name, by simp, ?_⟩
      walk_at "ka"
      refine opd_niZV pair_key ⟨_, rfl, rfl, fun _ => ?_⟩
      walk_at "ka"
      rfl
    refine dq_set ?_
    refine de_lcM (rgN (1 + (i : Int) + 1) (n - (1 + (i : Int))).toNat) (fun a => DV.dat (.int a)) (fun b => (getM m (kd (pairD (1 + (i : Int)) b))).isSome) (fun a => .int a) ?_ (by rw [rgN_length]; omega) ?_ ?_
    · walk_at "ka"
      refine ⟨1 + (i : Int) + 1, n + 1, rfl, by omega, by omega, ?_⟩
      rw [show (n + 1 - (1 + (i : Int) + 1)).toNat = (n - (1 + (i : Int))).toNat by omega]
    · intro a ha W'' hW
      refine ⟨_, _, tg_name, by simp, ?_⟩
      walk_at "ka"
      refine opd_inZV pair_key ⟨_, rfl, rfl, fun _ => ?_⟩
      walk_at "ka"
      rfl
    refine ds_app (i := 2) rfl (by unfold placesD; rw [List.length_map, rgN_length]; omega) ?_
    walk_at "ka"
    refine ⟨?_, _, _, _, rfl⟩
    have e := place_split (n := n) (T := U) (p := 1 + (i : Int)) (by omega) (by omega) (fun a => !(getM m (kd (pairD a (1 + (i : Int))))).isSome) (fun b => (getM m (kd (pairD (1 + (i : Int)) b))).isSome)
      (fun a a1 a2 => by rw [← hm a (1 + (i : Int)) a1 a2 (by omega)]; simp) (fun b b1 b2 => hm _ _ (by omega) b1 b2)
    rw [show (1 + (i : Int) - 1).toNat = i by omega] at e
    rw [rgN_succ]
    unfold placesD
    rw [List.map_append, List.map_cons, List.map_nil, e, List.length_map, List.length_map, Int.natCast_add]
    rfl
  · rintro W' Δ' ⟨rfl, x3, x4, x5, rfl⟩
    rw [List.length_map, rgN_length, show (n + 1 - 1).toNat = n.toNat by omega]
    refine ds_see (i := 2) hp rfl ?_
    walk_at "ka"
    refine de_lcM (turnR n U) (fun p => DV.dat (pairD (placeT n U p) p)) (fun _ => true) (fun p => .int p) (di_seqL ?_) (by have := (turnR_ok (T := U) h0 h1).len; omega) ?_ ?_
    · walk_at "ka"
      refine cal_sortedZL (pairs_alike _ _) (pairs_sortable _ _) (pairs_dep _ _) ?_
      walk_at "ka"
      show ((placesD n U (rgN 1 n.toNat)).mergeSort (PySem.W.dataLe false id)).map DV.dat = _
      rw [places_sorted hU h0 h1]
      unfold placesD
      rw [List.map_map]
      rfl
    · intro p hp W'' hW
      refine ⟨_, _, tg_tup2, by simp, ?_⟩
      walk_at "ka"
      refine ⟨rfl, fun _ => ?_⟩
      walk_at "ka"
      rfl
    · walk_at "ka"
      rw [List.filter_eq_self.mpr (fun _ _ => rfl)]
      exact ⟨Wd.Le.refl W, q⟩

theorem turnedD_pairs (r : List Int) : PairL (turnedD r) := fun d m => by
  obtain ⟨a, b, h, _⟩ := turnedL_mem (List.mem_mergeSort.mp m)
  exact ⟨a, b, h⟩
/-- the turned pairs, number by number -/
def turnedR : List Int → List PyData
  | [] => []
  | b :: r => ((r.filter fun low => decide (low < b)).map fun low => pairD low b) ++ turnedR r
theorem turnedL_from (full : List Int) : ∀ (l : List Int) (k : Nat), full.drop k = l → ((l.zipIdx k).flatMap fun p => ((full.drop (p.2 + 1)).filter fun low => decide (low < p.1)).map fun low => pairD low p.1) = turnedR l
  | [], _, _ => rfl
  | b :: l, k, h => by
    have h2 : full.drop (k + 1) = l := by rw [← List.drop_drop, h]; rfl
    rw [List.zipIdx_cons, List.flatMap_cons, turnedL_from full l (k + 1) h2, h2]
    rfl
theorem turnedL_eq (r : List Int) : turnedL r = turnedR r := turnedL_from r r 0 rfl
theorem turnedR_len : ∀ r : List Int, 2 * (turnedR r).length ≤ r.length * r.length
  | [] => Nat.le_refl _
  | b :: r => by
    have ih := turnedR_len r
    have f : (r.filter fun low => decide (low < b)).length ≤ r.length := List.length_filter_le ..
    have e : (r.length + 1) * (r.length + 1) = r.length * r.length + 2 * r.length + 1 := by
      rw [Nat.add_mul, Nat.one_mul, Nat.mul_add, Nat.mul_one]
      omega
    rw [turnedR, List.length_append, List.length_map, List.length_cons, e]
    omega
theorem turnedD_len {n : Int} {r : List Int} (h : RowOk n r) (hn : n ≤ 40) : (turnedD r).length < 1000 := by
  have a := turnedR_len r
  have b : r.length ≤ 40 := by have := h.len; omega
  have c : r.length * r.length ≤ 40 * 40 := Nat.mul_le_mul b b
  unfold turnedD
  rw [List.length_mergeSort, turnedL_eq]
  omega
theorem turnedR_mem {a b : Int} : ∀ {r : List Int}, pairD a b ∈ turnedR r ↔ a < b ∧ [b, a].Sublist r
  | [] => by simp [turnedR]
  | c :: r => by
    rw [turnedR, List.mem_append, turnedR_mem, List.mem_map]
    constructor
    · rintro (⟨low, m, e⟩ | ⟨h1, h2⟩)
      · obtain ⟨m1, m2⟩ := List.mem_filter.mp m
        simp only [pairD, PyData.tuple.injEq, List.cons.injEq, PyData.int.injEq, and_true] at e
        obtain ⟨rfl, rfl⟩ := e
        exact ⟨of_decide_eq_true m2, (List.singleton_sublist.mpr m1).cons_cons _⟩
      · exact ⟨h1, h2.cons _⟩
    · rintro ⟨h1, h2⟩
      rcases List.sublist_cons_iff.mp h2 with h | ⟨l, e, h⟩
      · exact .inr ⟨h1, h⟩
      · cases e
        exact .inl ⟨a, List.mem_filter.mpr ⟨List.singleton_sublist.mp h, decide_eq_true h1⟩, rfl⟩
theorem turnedD_mem {a b : Int} {r : List Int} : pairD a b ∈ turnedD r ↔ a < b ∧ [b, a].Sublist r := by
  unfold turnedD
  rw [List.mem_mergeSort, turnedL_eq, turnedR_mem]
def notBelow (r s : List Int) : List PyData := (turnedD r).filter fun d => !hasD (turnedD s) d
def C_pairs_not_below : Con := fun _ es P => ∃ n r s, es = [.dat (.int n), .dat (.tuple (intsD r)), .dat (.tuple (intsD s))] ∧ RowOk n r ∧ RowOk n s ∧ n ≤ 40 ∧ P (.dat (.list (notBelow r s)))
theorem ok_pairs_not_below (T : Tx K mg) : FnOk P w K mg base CX0 6 T.f_pairs_not_below T.d_pairs_not_below ["n", "one", "other"] (SpC K C_pairs_not_below) := by
  refine kfn T.F_pairs_not_below sc_pairs_not_below (fun W es P ⟨_, _, _, h, _⟩ => by rw [h]; rfl) fun cdv A outer s H E hr => ⟨_, (pss_cons (ps_set (i := 3) sc_pairs_not_below.nd rfl (by first | exact Or.inl rfl | exact Or.inr rfl) (pe_call (ok_turned_pairs T) hr (by rfl) T.g_turned_pairs T.F_turned_pairs.kp T.b_turned_pairs .nil pass0 (pa_cons (pv 0) (pa_cons (pv 1) pa_nil))))
      (pss_cons (ps_set (i := 4) sc_pairs_not_below.nd rfl (by first | exact Or.inl rfl | exact Or.inr rfl) (pe_call (ok_turned_pairs T) hr (by rfl) T.g_turned_pairs T.F_turned_pairs.kp T.b_turned_pairs .nil pass0 (pa_cons (pv 0) (pa_cons (pv 2) pa_nil))))
      (pss_one (ps_ret (pe_call (ok_pairs_only_in T) (hr.mono (by decide)) (by rfl) T.g_pairs_only_in T.F_pairs_only_in.kp T.b_pairs_only_in .nil pass0 (pa_cons (pv 3) (pa_cons (pv 4) pa_nil))))))), fun W es P hC => ?_⟩
  obtain ⟨n, r, s, rfl, ho, hs, hn, q⟩ := hC
  try dsimp only [cx_K, cx_w]
  walk_at "ka"
  refine ⟨n, r, rfl, ho, ?_⟩
  walk_at "ka"
  refine ⟨n, s, rfl, hs, ?_⟩
  walk_at "ka"
  refine ⟨_, _, rfl, turnedD_pairs r, turnedD_pairs s, ?_, turnedD_len hs hn, Wd.Le.refl W, q⟩
  have := turnedD_len ho hn
  omega

def C_is_below : Con := fun _ es P => ∃ n r s, es = [.dat (.int n), .dat (.tuple (intsD r)), .dat (.tuple (intsD s))] ∧ RowOk n r ∧ RowOk n s ∧ n ≤ 40 ∧ P (.dat (.bool ((turnedD r).all (hasD (turnedD s)))))
theorem ok_is_below (T : Tx K mg) : FnOk P w K mg base CX0 7 T.f_is_below T.d_is_below ["n", "one", "other"] (SpC K C_is_below) := by
  refine kfn T.F_is_below sc_is_below (fun W es P ⟨_, _, _, h, _⟩ => by rw [h]; rfl) fun cdv A outer s H E hr => ⟨_, (pss_one (ps_ret (pe_cmpR (op_eqK (K := K) rfl hr.units) (pe_callB (cr_lenK (K := K) rfl) (by rfl) T.m_len (by decide +kernel) (pa_cons (pe_call (ok_pairs_not_below T) hr (by rfl) T.g_pairs_not_below T.F_pairs_not_below.kp T.b_pairs_not_below .nil pass0 (pa_cons (pv 0) (pa_cons (pv 1) (pa_cons (pv 2) pa_nil)))) pa_nil)) pe_int (nomark _)))), fun W es P hC => ?_⟩
  obtain ⟨n, r, s, rfl, ho, hs, hn, q⟩ := hC
  try dsimp only [cx_K, cx_w]
  walk_at "ka"
  refine ⟨n, r, s, rfl, ho, hs, hn, ?_⟩
  walk_at "ka"
  refine opd_eq (by rfl) (by rfl) ⟨Wd.Le.refl W, ?_⟩
  have e : PyData.eqv (.int ((notBelow r s).length : Int)) (.int 0) = (turnedD r).all (hasD (turnedD s)) := by
    rw [eqv_int, Bool.eq_iff_iff, decide_eq_true_iff, Int.natCast_eq_zero, List.length_eq_zero_iff]
    unfold notBelow
    rw [List.filter_eq_nil_iff, List.all_eq_true]
    simp
  rw [e]
  exact q

theorem ints_at {l : List Int} {i : Nat} {e : DV} (h : ((intsD l).map DV.dat)[i]? = some e) : ∃ x, l[i]? = some x ∧ e = .dat (.int x) := by
  unfold intsD at h
  rw [List.map_map, List.getElem?_map] at h
  cases q : l[i]? with
  | none =>
    rw [q] at h
    cases h
  | some x =>
    rw [q] at h
    cases h
    exact ⟨x, rfl, rfl⟩
theorem mem_take_succ {α : Type} {l : List α} {i : Nat} {x y : α} (h : l[i]? = some x) : y ∈ l.take (i + 1) ↔ y ∈ l.take i ∨ y = x := by
  rw [List.take_add_one, h]
  simp
/-- the dict has just these pairs -/
def DicT (m : List (PyData × PyData)) (T : Int → Int → Prop) : Prop := ∀ a c, (getM m (kd (pairD a c))).isSome = true ↔ T a c
theorem DicT.put {m : List (PyData × PyData)} {T : Int → Int → Prop} (h : DicT m T) (a c : Int) (e : PyData) : DicT (putM m (pairD a c) e) fun x y => T x y ∨ (x = a ∧ y = c) := fun x y => by
  rw [getM_put, Bool.or_eq_true, decide_eq_true_iff, h x y, pair_kd]
  exact or_congr Iff.rfl (and_congr eq_comm eq_comm)
theorem DicT.iff {m : List (PyData × PyData)} {T U : Int → Int → Prop} (h : DicT m T) (e : ∀ a c, T a c ↔ U a c) : DicT m U := fun a c => (h a c).trans (e a c)
def C_chained (P : Program) (w : World) : Con := fun _ es PX => ∃ (n : Int) (ds : List PyData) (R : Int → Int → Prop), es = [.dat (.int n), .dat (.tuple ds)] ∧ PairL ds ∧ (∀ a b, R a b ↔ pairD a b ∈ ds) ∧ (∀ a b, R a b → 1 ≤ a ∧ a < b ∧ b ≤ n) ∧ ds.length ≤ 2000 ∧ 1 ≤ n ∧ n ≤ 40 ∧
  ∀ m, DicT m (Ch R) → PX (dicD P w m)
theorem ok_chained (T : Tx K mg) : FnOk P w K mg base CX0 1 T.f_chained T.d_chained ["n", "pairs"] (SpC K (C_chained P w)) := by
  refine kfn T.F_chained sc_chained (fun W es P ⟨_, _, _, h, _⟩ => by rw [h]; rfl) fun cdv A outer s H E hr => ⟨_, (pss_cons (ps_set (i := 2) sc_chained.nd rfl (by first | exact Or.inl rfl | exact Or.inr rfl) (pe_dcTK (P := P) (w := w) (K := K) (own := [("pair", 8)]) rfl rfl rfl hr.units rfl sc_chained.nd (pi_seqK (K := K) rfl (pv 1)) (blkOk_by (N := N_chained) (sc := defScope s_chained) (by decide +kernel)) (fun _ _ _ _ _ => (pg_name (i := 8) sc_chained.nd rfl (by first | exact Or.inl rfl | exact Or.inr rfl))) (fun _ _ _ _ _ => pts_nil) (fun _ _ _ _ _ => (pv 8)) (fun _ _ _ _ _ => pe_bl)))
      (pss_cons (ps_for PassesOwn.never rfl (pi_range2 rfl T.m_range (pa_cons pe_int (pa_cons (pv 0) pa_nil))) (pg_name (i := 3) sc_chained.nd rfl (by first | exact Or.inl rfl | exact Or.inr rfl)) (pss_cons (ps_setLc (i := 4) (own := [("a", 6)]) rfl sc_chained.nd rfl rfl (sw_true rfl rfl rfl (by decide +kernel)) (pi_range2 rfl T.m_range (pa_cons pe_int (pa_cons (pv 3) pa_nil))) (blkOk_by (N := N_chained) (sc := defScope s_chained) (by decide +kernel)) (fun _ _ _ _ _ => (pg_name (i := 6) sc_chained.nd rfl (by first | exact Or.inl rfl | exact Or.inr rfl))) (fun _ _ _ _ _ => (pts_one (pt_cmpR (op_inZ (P := P) (w := w) (K := K) rfl rfl rfl (hu65 hr)) (pe_tup (pa_cons (pv 6) (pa_cons (pv 3) pa_nil))) (pv 2) (by rfl)))) (fun _ _ _ _ _ => (pv 6)))
      (pss_cons (ps_setLc (i := 5) (own := [("c", 7)]) rfl sc_chained.nd rfl rfl (sw_true rfl rfl rfl (by decide +kernel)) (pi_range2 rfl T.m_range (pa_cons (pe_op (op_addK (K := K) rfl) (pv 3) pe_int) (pa_cons (pe_op (op_addK (K := K) rfl) (pv 0) pe_int) pa_nil))) (blkOk_by (N := N_chained) (sc := defScope s_chained) (by decide +kernel)) (fun _ _ _ _ _ => (pg_name (i := 7) sc_chained.nd rfl (by first | exact Or.inl rfl | exact Or.inr rfl))) (fun _ _ _ _ _ => (pts_one (pt_cmpR (op_inZ (P := P) (w := w) (K := K) rfl rfl rfl (hu65 hr)) (pe_tup (pa_cons (pv 3) (pa_cons (pv 7) pa_nil))) (pv 2) (by rfl)))) (fun _ _ _ _ _ => (pv 7)))
      (pss_one (ps_for PassesOwn.never rfl (pi_seqK (K := K) rfl (pv 4)) (pg_name (i := 6) sc_chained.nd rfl (by first | exact Or.inl rfl | exact Or.inr rfl)) (pss_one (ps_for PassesOwn.never rfl (pi_seqK (K := K) rfl (pv 5)) (pg_name (i := 7) sc_chained.nd rfl (by first | exact Or.inl rfl | exact Or.inr rfl)) (pss_one (ps_putDK (P := P) (w := w) (K := K) rfl rfl rfl hr.units (pv 2) (pe_tup (pa_cons (pv 6) (pa_cons (pv 7) pa_nil))) pe_bl)))))))))
      (pss_one (ps_ret (pv 2))))), fun W es PX hC => ?_⟩
  obtain ⟨n, ds, R, rfl, hd, hR, rg, hz, h0, h1, q⟩ := hC
  try dsimp only [cx_K, cx_w]
  refine ds_seq (ds_dic ?_)
  refine di_seqT ?_
  walk_at "ka"
  refine ⟨by rw [List.length_map]; omega, fun i m => ∀ k, (getM m k).isSome = true ↔ k ∈ (ds.take i).map kd, fun k => by simp [getM_nil], fun i e m W' he hm hW => ?_, fun m hm hl p hp => ?_⟩
  · rw [List.getElem?_map] at he
    obtain ⟨d, hdi, rfl⟩ := Option.map_eq_some_iff.mp he
    refine ⟨_, _, tg_name, by simp, ?_⟩
    walk_at "ka"
    refine ⟨fun _ => ?_, nofun⟩
    walk_at "ka"
    obtain ⟨a, b, rfl⟩ := hd d (List.mem_of_getElem? hdi)
    refine ⟨pair_key, ?_⟩
    walk_at "ka"
    intro k
    rw [getM_put, Bool.or_eq_true, hm k, List.mem_map, List.mem_map, decide_eq_true_iff]
    constructor
    · rintro (⟨x, h1, h2⟩ | h)
      · exact ⟨x, (mem_take_succ hdi).mpr (.inl h1), h2⟩
      · exact ⟨_, (mem_take_succ hdi).mpr (.inr rfl), h⟩
    · rintro ⟨x, h1, h2⟩
      rcases (mem_take_succ hdi).mp h1 with h1 | rfl
      · exact .inl ⟨x, h1, h2⟩
      · exact .inr h2
  have hm0 : DicT m R := fun a c => by
    rw [List.length_map, List.take_length] at hm
    rw [hm, hR, List.mem_map]
    constructor
    · rintro ⟨x, m1, e⟩
      obtain ⟨y, z, rfl⟩ := hd x m1
      obtain ⟨rfl, rfl⟩ := pair_kd.mp e
      exact m1
    · exact fun h => ⟨_, h, rfl⟩
  rw [List.length_map] at hl
  clear hm
  refine ds_seq (ds_for ?_)
  walk_at "ka"
  refine ⟨2, n, rfl, by omega, by omega, fun i W' Δ' => ∃ m, W' = W.hide p (knDic P w K p m) ∧ m.length ≤ 2000 + i * 1600 ∧ DicT m (Via R (1 + i)) ∧ ∃ x3 x4 x5 x6 x7, Δ' = [some (.dat (.int n)), some (.dat (.tuple ds)), some (.raw (.ref p)), x3, x4, x5, x6, x7, none], ⟨m, rfl, by omega, hm0.iff fun a c => by rw [show (1 : Int) + (0 : Nat) = 1 from rfl]; exact (via_one rg).symm, none, none, none, none, none, rfl⟩, ?_, ?_⟩
  · rintro i e W' Δ' he ⟨m, rfl, hl, hm, x3, x4, x5, x6, x7, rfl⟩
    obtain ⟨hi, rfl⟩ := rgN_at he
    have hi : (i : Int) + 2 < n := by omega
    refine ⟨_, _, tg_name, ?_⟩
    generalize hb : (2 : Int) + (i : Int) = b
    refine dq_set ?_
    refine de_lcM (rgN 1 (b - 1).toNat) (fun a => DV.dat (.int a)) (fun a => (getM m (kd (pairD a b))).isSome) (fun a => .int a) ?_ (by rw [rgN_length]; omega) ?_ ?_
    · walk_at "ka"
      exact ⟨1, b, rfl, by omega, by omega, rfl⟩
    · rintro a ha W'' ⟨_, _, rfl, _⟩
      refine ⟨_, _, tg_name, by simp, ?_⟩
      walk_at "ka"
      refine opd_inZD Wd.Keeps.self.hide pair_key ⟨_, rfl, rfl, fun _ => ?_⟩
      walk_at "ka"
      rfl
    refine dq_set ?_
    refine de_lcM (rgN (b + 1) (n - b).toNat) (fun a => DV.dat (.int a)) (fun c => (getM m (kd (pairD b c))).isSome) (fun a => .int a) ?_ (by rw [rgN_length]; omega) ?_ ?_
    · walk_at "ka"
      refine ⟨b + 1, n + 1, rfl, by omega, by omega, ?_⟩
      rw [show (n + 1 - (b + 1)).toNat = (n - b).toNat by omega]
    · rintro a ha W'' ⟨_, _, rfl, _⟩
      refine ⟨_, _, tg_name, by simp, ?_⟩
      walk_at "ka"
      refine opd_inZD Wd.Keeps.self.hide pair_key ⟨_, rfl, rfl, fun _ => ?_⟩
      walk_at "ka"
      rfl
    have hA : ∀ a, a ∈ (rgN 1 (b - 1).toNat).filter (fun a => (getM m (kd (pairD a b))).isSome) ↔ Via R (1 + i) a b := fun a => by
      rw [List.mem_filter, hm a b, rgN_mem]
      constructor
      · exact fun h => h.2
      · intro h
        have := h.lt fun x y z => (rg x y z).2.1
        have l1 : 1 ≤ a := h.lo fun x y z => (rg x y z).1
        exact ⟨by omega, h⟩
    have hB : ∀ c, c ∈ (rgN (b + 1) (n - b).toNat).filter (fun c => (getM m (kd (pairD b c))).isSome) ↔ Via R (1 + i) b c := fun c => by
      rw [List.mem_filter, hm b c, rgN_mem]
      constructor
      · exact fun h => h.2
      · intro h
        have := h.lt fun x y z => (rg x y z).2.1
        have l1 : c ≤ n := by
          cases h with
          | one h => exact (rg _ _ h).2.2
          | more _ _ h => exact (rg _ _ h).2.2
        exact ⟨by omega, h⟩
    have zA : ((rgN 1 (b - 1).toNat).filter (fun a => (getM m (kd (pairD a b))).isSome)).length ≤ 40 := Nat.le_trans (List.length_filter_le ..) (by rw [rgN_length]; omega)
    have zB : ((rgN (b + 1) (n - b).toNat).filter (fun c => (getM m (kd (pairD b c))).isSome)).length ≤ 40 := Nat.le_trans (List.length_filter_le ..) (by rw [rgN_length]; omega)
    generalize hLA : (rgN 1 (b - 1).toNat).filter (fun a => (getM m (kd (pairD a b))).isSome) = LA at hA zA
    generalize hLB : (rgN (b + 1) (n - b).toNat).filter (fun c => (getM m (kd (pairD b c))).isSome) = LB at hB zB
    show DS K _ [_, _, _, some (.dat (.int b)), some (.dat (.list (intsD LA))), some (.dat (.list (intsD LB))), x6, x7, none] _ _ _ _ _
    refine ds_for ?_
    refine di_seqL ?_
    walk_at "ka"
    refine ⟨fun j W' Δ' => ∃ m', W' = W.hide p (knDic P w K p m') ∧ m'.length ≤ m.length + j * 40 ∧ DicT m' (fun x y => Via R (1 + i) x y ∨ (x ∈ LA.take j ∧ y ∈ LB)) ∧ ∃ x6 x7, Δ' = [some (.dat (.int n)), some (.dat (.tuple ds)), some (.raw (.ref p)), some (.dat (.int b)), some (.dat (.list (intsD LA))), some (.dat (.list (intsD LB))), x6, x7, none], ⟨m, rfl, by omega, hm.iff fun a c => by simp, _, _, rfl⟩, ?_, ?_⟩
    · rintro j e W' Δ' he ⟨m1, rfl, hl1, hm1, x6, x7, rfl⟩
      obtain ⟨a, haj, rfl⟩ := ints_at he
      have hj := (List.getElem?_eq_some_iff.mp haj).1
      refine ⟨_, _, tg_name, ?_⟩
      refine ds_for ?_
      refine di_seqL ?_
      walk_at "ka"
      refine ⟨fun l W' Δ' => ∃ m', W' = W.hide p (knDic P w K p m') ∧ m'.length ≤ m1.length + l ∧ DicT m' (fun x y => (Via R (1 + i) x y ∨ (x ∈ LA.take j ∧ y ∈ LB)) ∨ (x = a ∧ y ∈ LB.take l)) ∧ ∃ x7, Δ' = [some (.dat (.int n)), some (.dat (.tuple ds)), some (.raw (.ref p)), some (.dat (.int b)), some (.dat (.list (intsD LA))), some (.dat (.list (intsD LB))), some (.dat (.int a)), x7, none], ⟨m1, rfl, by omega, hm1.iff fun a c => by simp, _, rfl⟩, ?_, ?_⟩
      · rintro l e W' Δ' he ⟨m2, rfl, hl2, hm2, x7, rfl⟩
        obtain ⟨c, hcl, rfl⟩ := ints_at he
        have hl := (List.getElem?_eq_some_iff.mp hcl).1
        refine ⟨_, _, tg_name, ?_⟩
        refine ds_putD (i := 2) rfl (by omega) ?_
        walk_at "ka"
        refine ⟨pair_key, putM m2 (pairD a c) (.bool true), rfl, ?_, ?_, _, rfl⟩
        · have := putM_len m2 (pairD a c) (.bool true)
          omega
        · refine (hm2.put a c _).iff fun x y => ?_
          rw [mem_take_succ hcl]
          constructor
          · rintro ((h | h) | h)
            · exact .inl h
            · exact .inr ⟨h.1, .inl h.2⟩
            · exact .inr ⟨h.1, .inr h.2⟩
          · rintro (h | ⟨h, h2 | h2⟩)
            · exact .inl (.inl h)
            · exact .inl (.inr ⟨h, h2⟩)
            · exact .inr ⟨h, h2⟩
      · rintro W' Δ' ⟨m2, rfl, hl2, hm2, x7, rfl⟩
        rw [List.length_map, intsD_len] at hl2 hm2
        rw [List.take_length] at hm2
        refine ⟨m2, rfl, by omega, hm2.iff fun x y => ?_, _, _, rfl⟩
        rw [mem_take_succ haj]
        constructor
        · rintro ((h | h) | h)
          · exact .inl h
          · exact .inr ⟨.inl h.1, h.2⟩
          · exact .inr ⟨.inr h.1, h.2⟩
        · rintro (h | ⟨h | h, h2⟩)
          · exact .inl (.inl h)
          · exact .inl (.inr ⟨h, h2⟩)
          · exact .inr ⟨h, h2⟩
    · rintro W' Δ' ⟨m1, rfl, hl1, hm1, x6, x7, rfl⟩
      rw [List.length_map, intsD_len] at hl1 hm1
      rw [List.take_length] at hm1
      refine ⟨m1, rfl, by omega, hm1.iff fun x y => ?_, _, _, _, _, _, rfl⟩
      rw [show (1 : Int) + ((i + 1 : Nat) : Int) = 1 + i + 1 by omega, via_step fun x y z => (rg x y z).2.1, hA, hB, show (1 : Int) + i + 1 = b by omega]
  · rintro W' Δ' ⟨m, rfl, hl, hm, x3, x4, x5, x6, x7, rfl⟩
    rw [List.length_map, rgN_length] at hm
    refine ds_seeD (i := 2) hp rfl ?_
    walk_at "ka"
    refine ⟨Wd.Le.refl W, q m (hm.iff fun a c => ?_)⟩
    by_cases c1 : n = 1
    · constructor
      · intro h
        have : ∀ x y, ¬ R x y := fun x y z => by have := rg x y z; omega
        cases h with
        | one h => exact (this _ _ h).elim
        | more _ _ h => exact (this _ _ h).elim
      · intro h
        have : ∀ x y, ¬ R x y := fun x y z => by have := rg x y z; omega
        cases h with
        | one h => exact (this _ _ h).elim
        | more _ h => exact (this _ _ h).elim
    · rw [show (1 : Int) + ((n - 2).toNat : Int) = n - 1 by omega]
      exact via_ch rg

theorem turnedD_tur {r : List Int} {a b : Int} : pairD a b ∈ turnedD r ↔ tur r a b := by
  rw [turnedD_mem, bef_sub]
  exact Iff.rfl

def C_least_above : Con := fun _ es P => ∃ n r s, es = [.dat (.int n), .dat (.tuple (intsD r)), .dat (.tuple (intsD s))] ∧ RowOk n r ∧ RowOk n s ∧ 1 ≤ n ∧ n ≤ 40 ∧ ∀ t, RowOk n t → IsLub r s t → P (.dat (.tuple (intsD t)))
theorem ok_least_above (T : Tx K mg) : FnOk P w K mg base CX0 6 T.f_least_above T.d_least_above ["n", "one", "other"] (SpC K C_least_above) := by
  refine kfn T.F_least_above sc_least_above (fun W es P ⟨_, _, _, h, _⟩ => by rw [h]; rfl) fun cdv A outer s H E hr => ⟨_, (pss_cons (ps_set (i := 3) sc_least_above.nd rfl (by first | exact Or.inl rfl | exact Or.inr rfl) (pe_op (op_addK (K := K) rfl) (pe_call (ok_turned_pairs T) hr (by rfl) T.g_turned_pairs T.F_turned_pairs.kp T.b_turned_pairs .nil pass0 (pa_cons (pv 0) (pa_cons (pv 1) pa_nil))) (pe_call (ok_turned_pairs T) hr (by rfl) T.g_turned_pairs T.F_turned_pairs.kp T.b_turned_pairs .nil pass0 (pa_cons (pv 0) (pa_cons (pv 2) pa_nil)))))
      (pss_one (ps_ret (pe_call (ok_row_turning T) (hr.mono (by decide)) (by rfl) T.g_row_turning T.F_row_turning.kp T.b_row_turning .nil pass0 (pa_cons (pv 0) (pa_cons (pe_call (ok_chained T) (hr.mono (by decide)) (by rfl) T.g_chained T.F_chained.kp T.b_chained .nil pass0 (pa_cons (pv 0) (pa_cons (pv 3) pa_nil))) pa_nil)))))), fun W es PX hC => ?_⟩
  obtain ⟨n, r, s, rfl, hr', hs, h0, h1, q⟩ := hC
  have z1 := turnedD_len hr' h1
  have z2 := turnedD_len hs h1
  try dsimp only [cx_K, cx_w]
  walk_at "ka"
  refine ⟨n, r, rfl, hr', ?_⟩
  walk_at "ka"
  refine ⟨n, s, rfl, hs, ?_⟩
  refine opd_addT (by omega) ?_
  walk_at "ka"
  have rg : ∀ a b, (tur r a b ∨ tur s a b) → 1 ≤ a ∧ a < b ∧ b ≤ n := fun a b h => h.elim (tur_rg hr') (tur_rg hs)
  refine ⟨n, turnedD r ++ turnedD s, fun a b => tur r a b ∨ tur s a b, rfl, fun d m => ?_, fun a b => ?_, rg, by rw [List.length_append]; omega, h0, h1, fun m hm => ?_⟩
  · rcases List.mem_append.mp m with m | m
    · exact turnedD_pairs r d m
    · exact turnedD_pairs s d m
  · rw [List.mem_append, turnedD_tur, turnedD_tur]
  walk_at "ka"
  have hc := ch_clo (tur_clo hr') (tur_clo hs)
  exact ⟨n, m, _, rfl, hc, fun a b _ _ _ => hm a b, hr'.lo, hr'.hi, Wd.Le.refl W, q _ (turnR_ok hr'.lo hr'.hi) (turnR_tur hc hr'.lo hr'.hi)⟩

def C_greatest_below : Con := fun _ es P => ∃ n r s, es = [.dat (.int n), .dat (.tuple (intsD r)), .dat (.tuple (intsD s))] ∧ RowOk n r ∧ RowOk n s ∧ 1 ≤ n ∧ n ≤ 40 ∧ ∀ t, RowOk n t → IsLub r.reverse s.reverse t.reverse → P (.dat (.tuple (intsD t)))
theorem ok_greatest_below (T : Tx K mg) : FnOk P w K mg base CX0 7 T.f_greatest_below T.d_greatest_below ["n", "one", "other"] (SpC K C_greatest_below) := by
  refine kfn T.F_greatest_below sc_greatest_below (fun W es P ⟨_, _, _, h, _⟩ => by rw [h]; rfl) fun cdv A outer s H E hr => ⟨_, (pss_one (ps_ret (pe_call (ok_mirror T) (hr.mono (by decide)) (by rfl) T.g_mirror T.F_mirror.kp T.b_mirror .nil pass0 (pa_cons (pv 0) (pa_cons (pe_call (ok_least_above T) hr (by rfl) T.g_least_above T.F_least_above.kp T.b_least_above .nil pass0 (pa_cons (pv 0) (pa_cons (pe_call (ok_mirror T) (hr.mono (by decide)) (by rfl) T.g_mirror T.F_mirror.kp T.b_mirror .nil pass0 (pa_cons (pv 0) (pa_cons (pv 1) pa_nil))) (pa_cons (pe_call (ok_mirror T) (hr.mono (by decide)) (by rfl) T.g_mirror T.F_mirror.kp T.b_mirror .nil pass0 (pa_cons (pv 0) (pa_cons (pv 2) pa_nil))) pa_nil)))) pa_nil))))), fun W es PX hC => ?_⟩
  obtain ⟨n, r, s, rfl, hr', hs, h0, h1, q⟩ := hC
  try dsimp only [cx_K, cx_w]
  walk_at "ka"
  refine ⟨n, r, rfl, hr', ?_⟩
  walk_at "ka"
  refine ⟨n, s, rfl, hs, ?_⟩
  walk_at "ka"
  refine ⟨n, r.reverse, s.reverse, rfl, hr'.rev, hs.rev, h0, h1, fun t ht hl => ?_⟩
  walk_at "ka"
  refine ⟨n, t, rfl, ht, Wd.Le.refl W, q _ ht.rev (by rw [List.reverse_reverse]; exact hl)⟩

/-- the datum of a row -/
def rowD (r : List Int) : PyData := .tuple (intsD r)

/-! arcs -/
def arcD (a b : Int) (S : List Int) : PyData := .tuple [.int a, .int b, .tuple (intsD S)]
structure ArcOk (n a b : Int) (S : List Int) : Prop where
  lo : 1 ≤ a
  lt : a < b
  hi : b ≤ n
  asc : S.Pairwise (· < ·)
  mem : ∀ p ∈ S, a < p ∧ p < b
/-- the numbers of S between c and d -/
def betw (c d : Int) (S : List Int) : List Int := S.filter fun p => decide (c < p) && decide (p < d)
theorem betw_mem {c d p : Int} {S : List Int} : p ∈ betw c d S ↔ p ∈ S ∧ c < p ∧ p < d := by
  unfold betw
  rw [List.mem_filter, Bool.and_eq_true, decide_eq_true_iff, decide_eq_true_iff]
theorem asc_len : ∀ {S : List Int} {a b : Int}, S.Pairwise (· < ·) → (∀ p ∈ S, a < p ∧ p < b) → S.length ≤ (b - a - 1).toNat
  | [], _, _, _, _ => Nat.zero_le _
  | p :: S, a, b, h, hm => by
    rw [List.pairwise_cons] at h
    have h0 := hm p (by simp)
    have ih := asc_len (a := p) (b := b) h.2 fun q hq => ⟨h.1 q hq, (hm q (List.mem_cons_of_mem _ hq)).2⟩
    rw [List.length_cons]
    omega
theorem ArcOk.len {n a b : Int} {S : List Int} (h : ArcOk n a b S) : S.length ≤ (b - a - 1).toNat := asc_len h.asc h.mem
theorem eqv_arcs {a b c d : Int} {S R : List Int} : PyData.eqv (arcD a b S) (arcD c d R) = (decide (a = c) && (decide (b = d) && decide (S = R))) := by
  show (PyData.eqv (.int a) (.int c) && (PyData.eqv (.int b) (.int d) && (PyData.eqvAll (intsD S) (intsD R) && true))) = _
  rw [eqvAll_ints, Bool.and_true]
  congr 1

def sortI (l : List Int) : List Int := l.mergeSort fun a b => decide (a ≤ b)
theorem sort_intsD (l : List Int) : (intsD l).mergeSort (PySem.W.dataLe false id) = intsD (sortI l) := by
  unfold sortI intsD
  rw [List.map_mergeSort (s := PySem.W.dataLe false id)]
  intro a _ b _
  exact (congrFun (congrFun (PySem.W.dataLe_int (β := Int) id) a) b).symm
theorem sortI_mem {x : Int} {l : List Int} : x ∈ sortI l ↔ x ∈ l := List.mem_mergeSort
theorem sortI_asc {l : List Int} (h : l.Nodup) : (sortI l).Pairwise (· < ·) := by
  have p := List.pairwise_mergeSort (le := fun a b : Int => decide (a ≤ b)) (by simp; omega) (by simp; omega) l
  have nd : (sortI l).Nodup := (List.mergeSort_perm l _).nodup_iff.mpr h
  refine (p.and nd).imp fun ⟨h1, h2⟩ => ?_
  have := of_decide_eq_true h1
  omega
def lowAt (r : List Int) (i : Nat) : Int := min (r.getD i 0) (r.getD (i + 1) 0)
def highAt (r : List Int) (i : Nat) : Int := max (r.getD i 0) (r.getD (i + 1) 0)
def aheadAt (r : List Int) (i : Nat) : List Int := sortI (betw (lowAt r i) (highAt r i) (r.take i))
/-- the arc at i -/
def arcOf (r : List Int) (i : Nat) : PyData := arcD (lowAt r i) (highAt r i) (aheadAt r i)
def C_arc_at : Con := fun _ es P => ∃ n r, ∃ i : Nat, es = [.dat (.int n), .dat (.tuple (intsD r)), .dat (.int i)] ∧ RowOk n r ∧ (i : Int) ≤ n - 2 ∧ P (.dat (arcOf r i))
theorem ok_arc_at (T : Tx K mg) : FnOk P w K mg base CX0 5 T.f_arc_at T.d_arc_at ["n", "row", "i"] (SpC K C_arc_at) := by
  refine kfn T.F_arc_at sc_arc_at (fun W es P ⟨_, _, _, h, _⟩ => by rw [h]; rfl) fun cdv A outer s H E hr => ⟨_, (pss_cons (ps_expr (pe_call (ok_check_row T) hr (by rfl) T.g_check_row T.F_check_row.kp T.b_check_row .nil pass0 (pa_cons (pv 0) (pa_cons (pv 1) pa_nil))))
      (pss_cons (ps_expr (pe_call (ok_check_place T) (hr.mono (by decide)) (by rfl) T.g_check_place T.F_check_place.kp T.b_check_place .nil pass0 (pa_cons (pv 0) (pa_cons (pv 2) pa_nil))))
      (pss_cons (ps_set (i := 3) sc_arc_at.nd rfl (by first | exact Or.inl rfl | exact Or.inr rfl) (pe_callB (cr_min2 rfl) (by rfl) T.m_min (by decide +kernel) (pa_cons (pe_ix (ix_K (K := K) rfl) (pv 1) (pv 2) (fun _ _ => rfl)) (pa_cons (pe_ix (ix_K (K := K) rfl) (pv 1) (pe_op (op_addK (K := K) rfl) (pv 2) pe_int) (fun _ _ => rfl)) pa_nil))))
      (pss_cons (ps_set (i := 4) sc_arc_at.nd rfl (by first | exact Or.inl rfl | exact Or.inr rfl) (pe_callB (cr_max2 rfl) (by rfl) T.m_max (by decide +kernel) (pa_cons (pe_ix (ix_K (K := K) rfl) (pv 1) (pv 2) (fun _ _ => rfl)) (pa_cons (pe_ix (ix_K (K := K) rfl) (pv 1) (pe_op (op_addK (K := K) rfl) (pv 2) pe_int) (fun _ _ => rfl)) pa_nil))))
      (pss_cons (ps_setLc (i := 5) (own := [("p", 6)]) rfl sc_arc_at.nd rfl rfl (sw_true rfl rfl rfl (by decide +kernel)) (pi_seqK (K := K) rfl (pe_slice (sl_K (K := K) rfl) (pv 1) po_none (po_some (pv 2)))) (blkOk_by (N := N_arc_at) (sc := defScope s_arc_at) (by decide +kernel)) (fun _ _ _ _ _ => (pg_name (i := 6) sc_arc_at.nd rfl (by first | exact Or.inl rfl | exact Or.inr rfl))) (fun _ _ _ _ _ => (pts_one (pt_chain op_lt op_lt (pv 3) (pv 6) (pv 4)))) (fun _ _ _ _ _ => (pv 6)))
      (pss_one (ps_ret (pe_tup (pa_cons (pv 3) (pa_cons (pv 4) (pa_cons (pe_callTy (cr_tupK (K := K) rfl) (by rfl) T.m_tuple (by decide +kernel) (pa_cons (pe_callB (cr_sortedZ (K := K) (w := w) rfl rfl rfl hr.units) (by rfl) T.m_sorted (by decide +kernel) (pa_cons (pv 5) pa_nil)) pa_nil)) pa_nil))))))))))), fun W es P hC => ?_⟩
  obtain ⟨n, r, i, rfl, ho, hi, q⟩ := hC
  have h2 := ho.hi
  have h3 := ho.len
  have g0 := getD_get (r := r) (i := i) (by omega)
  have g1 := getD_get (r := r) (i := i + 1) (by omega)
  try dsimp only [cx_K, cx_w]
  walk_at "ka"
  refine ⟨n, r, rfl, ho, ?_⟩
  walk_at "ka"
  refine ⟨n, i, rfl, by omega, hi, ?_⟩
  walk_at "ka"
  refine opd_ixT (atI_nat (intsD_get g0)) ?_
  walk_at "ka"
  rw [show (i : Int) + 1 = ((i + 1 : Nat) : Int) from rfl]
  refine opd_ixT (atI_nat (intsD_get g1)) ?_
  walk_at "ka"
  refine opd_ixT (atI_nat (intsD_get g0)) ?_
  walk_at "ka"
  rw [show (i : Int) + 1 = ((i + 1 : Nat) : Int) from rfl]
  refine opd_ixT (atI_nat (intsD_get g1)) ?_
  walk_at "ka"
  refine de_lcM (r.take i) (fun p => DV.dat (.int p)) (fun p => decide (lowAt r i < p) && decide (p < highAt r i)) (fun p => .int p) (di_seqT ?_) (by rw [List.length_take]; omega) ?_ ?_
  · walk_at "ka"
    rw [cut_to (by omega), show (i : Int).toNat = i from rfl, intsD_take]
    exact List.map_map ..
  · intro p hp W' hW
    refine ⟨_, _, tg_name, by simp, ?_⟩
    walk_at "ka"
    refine ⟨fun e => ?_, fun e => ⟨_, rfl, ?_⟩⟩
    · walk_at "ka"
      refine ⟨by rw [show decide (lowAt r i < p) = true from e, Bool.true_and]; rfl, fun e2 => ?_⟩
      walk_at "ka"
      rfl
    · rw [show decide (lowAt r i < p) = false from e, Bool.false_and]
      exact ⟨rfl, nofun⟩
  · walk_at "ka"
    have e : ((r.take i).filter fun p => decide (lowAt r i < p) && decide (p < highAt r i)).map (fun p => PyData.int p) = intsD (betw (lowAt r i) (highAt r i) (r.take i)) := rfl
    rw [e]
    refine cal_sortedZL (ints_alike _) (ints_sortable _) (ints_dep _) ?_
    walk_at "ka"
    rw [sort_intsD]
    exact ⟨Wd.Le.refl W, q⟩

def isFall (r : List Int) (i : Nat) : Bool := decide (r.getD (i + 1) 0 < r.getD i 0)
/-- the arcs at the falls, or at the rises, in the order of the row -/
def arcsL (r : List Int) (f : Bool) : List PyData := ((List.range (r.length - 1)).filter fun i => isFall r i == f).map (arcOf r)
theorem alike_ints2 : ∀ (xs ys : List Int), PySem.W.alikeAll (intsD xs) (intsD ys) = true
  | [], _ => by simp [intsD, PySem.W.alikeAll]
  | _ :: _, [] => by simp [intsD, PySem.W.alikeAll]
  | x :: xs, y :: ys => by
    show PySem.W.alikeAll (.int x :: intsD xs) (.int y :: intsD ys) = true
    rw [PySem.W.alikeAll, alike_ints2 xs ys]
    simp [PySem.W.alike]
def ArcL (ds : List PyData) : Prop := ∀ d ∈ ds, ∃ a b S, d = arcD a b S
theorem ArcL.alike {ds : List PyData} (h : ArcL ds) : PySem.W.AllAlike ds := fun x hx y hy => by
  obtain ⟨a, b, S, rfl⟩ := h x hx
  obtain ⟨c, d, R, rfl⟩ := h y hy
  show PySem.W.alike (.tuple [.int a, .int b, .tuple (intsD S)]) (.tuple [.int c, .int d, .tuple (intsD R)]) = true
  simp only [PySem.W.alike, PySem.W.alikeAll, alike_ints2, Bool.and_true]
theorem ArcL.sortable {ds : List PyData} (h : ArcL ds) : PySem.W.Sortable ds := .inl fun x hx => by
  obtain ⟨a, b, S, rfl⟩ := h x hx
  exact ⟨_, _, rfl⟩
theorem ArcL.dep {ds : List PyData} (h : ArcL ds) : ∀ x ∈ ds, x.depth ≤ 60 := fun x hx => by
  obtain ⟨a, b, S, rfl⟩ := h x hx
  show (PyData.tuple [.int a, .int b, .tuple (intsD S)]).depth ≤ 60
  simp [PyData.depth, PyData.depthAll, depth_intsD]
theorem rg_range (n : Nat) : rgN 0 n = (List.range n).map fun i : Nat => (i : Int) := by
  unfold rgN
  refine List.map_congr_left fun i _ => ?_
  omega

/-- what a fall's arc says -/
theorem fall_says {r : List Int} {j : Nat} (h : isFall r j = true) : lowAt r j = r.getD (j + 1) 0 ∧ highAt r j = r.getD j 0 ∧ r.getD (j + 1) 0 < r.getD j 0 := by
  unfold isFall at h
  have h := of_decide_eq_true h
  unfold lowAt highAt
  omega
theorem aheadAt_mem {r : List Int} {j : Nat} {x : Int} : x ∈ aheadAt r j ↔ x ∈ r.take j ∧ lowAt r j < x ∧ x < highAt r j := by
  unfold aheadAt
  rw [sortI_mem, betw_mem]
theorem take_get {r : List Int} {j : Nat} {x : Int} : x ∈ r.take j ↔ ∃ y, y < j ∧ r[y]? = some x := by
  rw [List.mem_iff_getElem?]
  constructor
  · rintro ⟨y, h⟩
    rw [List.getElem?_take] at h
    by_cases c : y < j
    · rw [if_pos c] at h
      exact ⟨y, c, h⟩
    · rw [if_neg c] at h
      cases h
  · rintro ⟨y, c, h⟩
    exact ⟨y, by rw [List.getElem?_take, if_pos c]; exact h⟩
theorem exch_get {r : List Int} {i k : Nat} (h : i + 1 < r.length) : (exch r i)[k]? = if k = i then r[i + 1]? else if k = i + 1 then r[i]? else r[k]? := by
  unfold exch
  have lt : (r.take i).length = i := by rw [List.length_take]; omega
  have g0 := getD_get (r := r) (i := i) (by omega)
  have g1 := getD_get (r := r) (i := i + 1) (by omega)
  rw [List.append_assoc, List.getElem?_append, lt]
  by_cases a : k < i
  · rw [if_pos a, if_neg (by omega), if_neg (by omega), List.getElem?_take, if_pos a]
  · rw [if_neg a, List.getElem?_append]
    by_cases b : k = i
    · rw [if_pos b, b, Nat.sub_self, if_pos (by simp), g1]
      rfl
    · by_cases c : k = i + 1
      · rw [if_neg b, if_pos c, c, show i + 1 - i = 1 by omega, if_pos (by simp), g0]
        rfl
      · rw [if_neg b, if_neg c, if_neg (by simp; omega), List.getElem?_drop]
        congr 1
        simp
        omega
theorem exch_len {r : List Int} {i : Nat} (h : i + 1 < r.length) : (exch r i).length = r.length := (exch_perm h).length_eq
theorem exch_twice {r : List Int} {i : Nat} (h : i + 1 < r.length) : exch (exch r i) i = r := by
  refine List.ext_getElem? fun k => ?_
  rw [exch_get (by rw [exch_len h]; exact h), exch_get h, exch_get h, exch_get h]
  by_cases b : k = i
  · rw [if_pos b, if_neg (by omega), if_pos rfl, b]
  · by_cases c : k = i + 1
    · rw [if_neg b, if_pos c, if_pos rfl, c]
    · rw [if_neg b, if_neg c, if_neg b, if_neg c]
theorem getD_of {r s : List Int} {i j : Nat} (h : r[i]? = s[j]?) : r.getD i 0 = s.getD j 0 := by
  rw [List.getD_eq_getElem?_getD, List.getD_eq_getElem?_getD, h]
/-- an exchange at a fall turns just its pair back -/
theorem exch_down {n : Int} {r : List Int} (hr : RowOk n r) {i : Nat} (h : i + 1 < r.length) (hf : r.getD (i + 1) 0 < r.getD i 0) (p q : Int) : tur (exch r i) p q ↔ tur r p q ∧ ¬(p = r.getD (i + 1) 0 ∧ q = r.getD i 0) := by
  have g0 := getD_get (r := r) (i := i) (by omega)
  have g1 := getD_get (r := r) (i := i + 1) h
  constructor
  · rintro ⟨hpq, x, y, hxy, e1, e2⟩
    rw [exch_get h] at e1 e2
    have ne : ¬(p = r.getD (i + 1) 0 ∧ q = r.getD i 0) := by
      rintro ⟨rfl, rfl⟩
      have a1 : x = i + 1 := by
        by_cases c : x = i
        · rw [if_pos c, g1] at e1
          have := Option.some.inj e1
          omega
        · rw [if_neg c] at e1
          by_cases c2 : x = i + 1
          · exact c2
          · rw [if_neg c2] at e1
            exact (c (get_uniq hr.nodup e1 g0)).elim
      have a2 : y = i := by
        by_cases c : y = i
        · exact c
        · rw [if_neg c] at e2
          by_cases c2 : y = i + 1
          · rw [if_pos c2, g0] at e2
            have := Option.some.inj e2
            omega
          · rw [if_neg c2] at e2
            exact (c2 (get_uniq hr.nodup e2 g1)).elim
      omega
    refine ⟨⟨hpq, ?_⟩, ne⟩
    by_cases c1 : x = i
    · rw [if_pos c1] at e1
      by_cases c2 : y = i + 1
      · rw [if_neg (by omega), if_pos c2] at e2
        rw [g1] at e1
        rw [g0] at e2
        have := Option.some.inj e1
        have := Option.some.inj e2
        omega
      · rw [if_neg (by omega), if_neg c2] at e2
        exact ⟨i + 1, y, by omega, e1, e2⟩
    · rw [if_neg c1] at e1
      by_cases c2 : x = i + 1
      · rw [if_pos c2] at e1
        rw [if_neg (by omega), if_neg (by omega)] at e2
        exact ⟨i, y, by omega, e1, e2⟩
      · rw [if_neg c2] at e1
        by_cases c3 : y = i
        · rw [if_pos c3] at e2
          exact ⟨x, i + 1, by omega, e1, e2⟩
        · rw [if_neg c3] at e2
          by_cases c4 : y = i + 1
          · rw [if_pos c4] at e2
            exact ⟨x, i, by omega, e1, e2⟩
          · rw [if_neg c4] at e2
            exact ⟨x, y, hxy, e1, e2⟩
  · rintro ⟨⟨hpq, x, y, hxy, e1, e2⟩, ne⟩
    refine ⟨hpq, ?_⟩
    have to : ∀ {k : Nat} {z : Int}, r[k]? = some z → (exch r i)[if k = i then i + 1 else if k = i + 1 then i else k]? = some z := fun {k z} e => by
      rw [exch_get h]
      by_cases c : k = i
      · rw [if_pos c, if_neg (by omega), if_pos rfl, ← c]
        exact e
      · rw [if_neg c]
        by_cases c2 : k = i + 1
        · rw [if_pos c2, if_pos rfl, ← c2]
          exact e
        · rw [if_neg c2, if_neg c, if_neg c2]
          exact e
    refine ⟨_, _, ?_, to e1, to e2⟩
    by_cases c1 : x = i
    · rw [if_pos c1]
      by_cases c2 : y = i + 1
      · refine (ne ⟨?_, ?_⟩).elim
        · rw [c2, g1] at e2
          exact (Option.some.inj e2).symm
        · rw [c1, g0] at e1
          exact (Option.some.inj e1).symm
      · rw [if_neg (by omega), if_neg c2]
        omega
    · rw [if_neg c1]
      by_cases c2 : x = i + 1
      · rw [if_pos c2, if_neg (by omega), if_neg (by omega)]
        omega
      · rw [if_neg c2]
        by_cases c3 : y = i
        · rw [if_pos c3]
          omega
        · rw [if_neg c3]
          by_cases c4 : y = i + 1
          · rw [if_pos c4]
            omega
          · rw [if_neg c4]
            exact hxy

/-! exchanges, mirrors, the other numbers -/
theorem aheadAt_asc {n : Int} {r : List Int} (h : RowOk n r) (j : Nat) : (aheadAt r j).Pairwise (· < ·) :=
  sortI_asc ((h.nodup.sublist (List.take_sublist _ _)).sublist List.filter_sublist)
theorem recs_same {n m : Int} {r s : List Int} (hr : RowOk n r) (hs : RowOk m s) {j k : Nat} (e1 : lowAt r j = lowAt s k) (e2 : highAt r j = highAt s k) (e3 : ∀ x, x ∈ r.take j ↔ x ∈ s.take k) : arcOf r j = arcOf s k := by
  unfold arcOf
  have : aheadAt r j = aheadAt s k := asc_unique (aheadAt_asc hr j) (aheadAt_asc hs k) fun x => by rw [aheadAt_mem, aheadAt_mem, e1, e2, e3]
  rw [e1, e2, this]
theorem exch_same {n : Int} {r : List Int} (hr : RowOk n r) {i : Nat} (h : i + 1 < r.length) : arcOf (exch r i) i = arcOf r i := by
  have ho := hr.of_perm (exch_perm h)
  have a : (exch r i).getD i 0 = r.getD (i + 1) 0 := getD_of (by rw [exch_get h, if_pos rfl])
  have b : (exch r i).getD (i + 1) 0 = r.getD i 0 := getD_of (by rw [exch_get h, if_neg (by omega), if_pos rfl])
  refine recs_same ho hr (by unfold lowAt; rw [a, b]; omega) (by unfold highAt; rw [a, b]; omega) fun x => ?_
  rw [take_get, take_get]
  constructor <;> rintro ⟨y, y1, y2⟩ <;> refine ⟨y, y1, ?_⟩ <;> rw [exch_get h, if_neg (by omega), if_neg (by omega)] at * <;> exact y2
theorem exch_far {n : Int} {r : List Int} (hr : RowOk n r) {i j : Nat} (h : i + 1 < r.length) (hj : j + 1 < r.length) (far : j + 1 < i ∨ i + 1 < j) : arcOf (exch r i) j = arcOf r j := by
  have ho := hr.of_perm (exch_perm h)
  have a : (exch r i).getD j 0 = r.getD j 0 := getD_of (by rw [exch_get h, if_neg (by omega), if_neg (by omega)])
  have b : (exch r i).getD (j + 1) 0 = r.getD (j + 1) 0 := getD_of (by rw [exch_get h, if_neg (by omega), if_neg (by omega)])
  refine recs_same ho hr (by unfold lowAt; rw [a, b]) (by unfold highAt; rw [a, b]) fun x => ?_
  rw [take_get, take_get]
  constructor
  · rintro ⟨y, y1, y2⟩
    rw [exch_get h] at y2
    by_cases c : y = i
    · rw [if_pos c] at y2
      exact ⟨i + 1, by omega, y2⟩
    · rw [if_neg c] at y2
      by_cases d : y = i + 1
      · rw [if_pos d] at y2
        exact ⟨i, by omega, y2⟩
      · rw [if_neg d] at y2
        exact ⟨y, y1, y2⟩
  · rintro ⟨y, y1, y2⟩
    by_cases c : y = i
    · exact ⟨i + 1, by omega, by rw [exch_get h, if_neg (by omega), if_pos rfl, ← c]; exact y2⟩
    · by_cases d : y = i + 1
      · exact ⟨i, by omega, by rw [exch_get h, if_pos rfl, ← d]; exact y2⟩
      · exact ⟨y, y1, by rw [exch_get h, if_neg c, if_neg d]; exact y2⟩
theorem exch_fall {n : Int} {r : List Int} (hr : RowOk n r) {i : Nat} (h : i + 1 < r.length) : isFall (exch r i) i = !isFall r i := by
  have a : (exch r i).getD i 0 = r.getD (i + 1) 0 := getD_of (by rw [exch_get h, if_pos rfl])
  have b : (exch r i).getD (i + 1) 0 = r.getD i 0 := getD_of (by rw [exch_get h, if_neg (by omega), if_pos rfl])
  have ne := hr.apart h
  unfold isFall
  rw [a, b]
  by_cases c : r.getD i 0 < r.getD (i + 1) 0
  · rw [decide_eq_true c, decide_eq_false (by omega)]
    rfl
  · rw [decide_eq_false c, decide_eq_true (by omega)]
    rfl
/-! below -/
/-! single rows -/
def behindL (a b : Int) (S : List Int) : List Int := (rgN (a + 1) (b - (a + 1)).toNat).filter fun p => !decide (p ∈ S)
theorem behindL_mem {a b x : Int} {S : List Int} : x ∈ behindL a b S ↔ a < x ∧ x < b ∧ x ∉ S := by
  unfold behindL
  rw [List.mem_filter, rgN_mem]
  simp
  constructor
  · rintro ⟨h1, h2⟩
    exact ⟨by omega, by omega, h2⟩
  · rintro ⟨h1, h2, h3⟩
    exact ⟨by omega, h3⟩
theorem behindL_asc {a b : Int} {S : List Int} : (behindL a b S).Pairwise (· < ·) := rgN_asc.sublist List.filter_sublist
def headL (a : Int) (b : Int) (S : List Int) : List Int := rgN 1 (a - 1).toNat ++ S ++ [b]
def tailL (n a b : Int) (S : List Int) : List Int := a :: (behindL a b S ++ rgN (b + 1) (n - b).toNat)
/-- the single row -/
def singleL (n a b : Int) (S : List Int) : List Int := headL a b S ++ tailL n a b S
theorem headL_asc {n a b : Int} {S : List Int} (h : ArcOk n a b S) : (headL a b S).Pairwise (· < ·) := by
  unfold headL
  rw [List.pairwise_append, List.pairwise_append]
  have h2 := h.lt
  refine ⟨⟨rgN_asc, h.asc, fun x hx y hy => ?_⟩, List.pairwise_singleton .., fun x hx y hy => ?_⟩
  · rw [rgN_mem] at hx
    have := h.mem y hy
    omega
  · rw [List.mem_singleton] at hy
    rcases List.mem_append.mp hx with hx | hx
    · rw [rgN_mem] at hx
      omega
    · have := h.mem x hx
      omega
theorem tailL_asc {n a b : Int} {S : List Int} (h : ArcOk n a b S) : (tailL n a b S).Pairwise (· < ·) := by
  unfold tailL
  have h2 := h.lt
  rw [List.pairwise_cons, List.pairwise_append]
  refine ⟨fun x hx => ?_, behindL_asc, rgN_asc, fun x hx y hy => ?_⟩
  · rcases List.mem_append.mp hx with hx | hx
    · exact (behindL_mem.mp hx).1
    · rw [rgN_mem] at hx
      omega
  · rw [rgN_mem] at hy
    have := behindL_mem.mp hx
    omega
theorem headL_mem {n a b x : Int} {S : List Int} (h : ArcOk n a b S) : x ∈ headL a b S ↔ (1 ≤ x ∧ x < a) ∨ x ∈ S ∨ x = b := by
  have h1 := h.lo
  unfold headL
  rw [List.mem_append, List.mem_append, rgN_mem, List.mem_singleton]
  constructor
  · rintro ((h | h) | h)
    · exact .inl (by omega)
    · exact .inr (.inl h)
    · exact .inr (.inr h)
  · rintro (h | h | h)
    · exact .inl (.inl (by omega))
    · exact .inl (.inr h)
    · exact .inr h
theorem tailL_mem {n a b x : Int} {S : List Int} (h : ArcOk n a b S) : x ∈ tailL n a b S ↔ x = a ∨ (a < x ∧ x < b ∧ x ∉ S) ∨ (b < x ∧ x ≤ n) := by
  have h1 := h.hi
  unfold tailL
  rw [List.mem_cons, List.mem_append, behindL_mem, rgN_mem]
  refine or_congr Iff.rfl (or_congr Iff.rfl ?_)
  omega
theorem bef_app {l m : List Int} {u v : Int} (h1 : u ∈ l) (h2 : v ∈ m) : bef (l ++ m) u v := by
  refine bef_sub.mp ?_
  have := List.Sublist.append (List.singleton_sublist.mpr h1) (List.singleton_sublist.mpr h2)
  exact this
theorem bef_parts {l m : List Int} {u v : Int} (h : bef (l ++ m) u v) : bef l u v ∨ bef m u v ∨ (u ∈ l ∧ v ∈ m) := by
  obtain ⟨x, y, hxy, e1, e2⟩ := h
  rw [List.getElem?_append] at e1 e2
  by_cases c1 : x < l.length
  · rw [if_pos c1] at e1
    by_cases c2 : y < l.length
    · rw [if_pos c2] at e2
      exact .inl ⟨x, y, hxy, e1, e2⟩
    · rw [if_neg c2] at e2
      exact .inr (.inr ⟨List.mem_of_getElem? e1, List.mem_of_getElem? e2⟩)
  · rw [if_neg c1] at e1
    rw [if_neg (by omega)] at e2
    exact .inr (.inl ⟨x - l.length, y - l.length, by omega, e1, e2⟩)
theorem asc_bef {l : List Int} (h : l.Pairwise (· < ·)) {u v : Int} (hb : bef l u v) : u < v := by
  obtain ⟨x, y, hxy, e1, e2⟩ := hb
  obtain ⟨l1, g1⟩ := List.getElem?_eq_some_iff.mp e1
  obtain ⟨l2, g2⟩ := List.getElem?_eq_some_iff.mp e2
  have := List.pairwise_iff_getElem.mp h x y l1 l2 hxy
  rw [g1, g2] at this
  exact this
/-- the turned pairs of a single row -/
theorem single_tur {n a b p q : Int} {S : List Int} (h : ArcOk n a b S) : tur (singleL n a b S) p q ↔ p < q ∧ (q ∈ S ∨ q = b) ∧ (p = a ∨ (a < p ∧ p < b ∧ p ∉ S)) := by
  have h2 := h.lt
  unfold tur singleL
  refine and_congr_right fun hpq => ?_
  constructor
  · intro hb
    rcases bef_parts hb with z | z | ⟨z1, z2⟩
    · have := asc_bef (headL_asc h) z
      omega
    · have := asc_bef (tailL_asc h) z
      omega
    · rw [headL_mem h] at z1
      rw [tailL_mem h] at z2
      have z3 : q ∈ S → q < b := fun hq => (h.mem q hq).2
      rcases z1 with z1 | z1 | z1
      · omega
      · refine ⟨.inl z1, ?_⟩
        have := z3 z1
        rcases z2 with z2 | z2 | z2
        · exact .inl z2
        · exact .inr z2
        · omega
      · refine ⟨.inr z1, ?_⟩
        rcases z2 with z2 | z2 | z2
        · exact .inl z2
        · exact .inr z2
        · omega
  · rintro ⟨h3, h4⟩
    refine bef_app ((headL_mem h).mpr (.inr h3)) ((tailL_mem h).mpr ?_)
    rcases h4 with h4 | h4
    · exact .inl h4
    · exact .inr (.inl h4)
/-- a row with a fall that has the arc -/
structure HasFall (n a b : Int) (S r : List Int) : Prop where
  ok : RowOk n r
  parts : ∃ l m, r = l ++ (b :: a :: m) ∧ (∀ x ∈ S, x ∈ l) ∧ ∀ x, a < x → x < b → x ∉ S → x ∈ m
theorem HasFall.arc {n a b : Int} {S r : List Int} (h : HasFall n a b S r) (ha : ArcOk n a b S) : arcD a b S ∈ arcsL r true := by
  obtain ⟨l, m, rfl, h1, h2⟩ := h.parts
  have hlt := ha.lt
  have g0 : (l ++ (b :: a :: m)).getD l.length 0 = b := by
    rw [List.getD_eq_getElem?_getD, List.getElem?_append_right (Nat.le_refl _), Nat.sub_self]
    rfl
  have g1 : (l ++ (b :: a :: m)).getD (l.length + 1) 0 = a := by
    rw [List.getD_eq_getElem?_getD, List.getElem?_append_right (by omega), Nat.add_sub_cancel_left]
    rfl
  have hl : lowAt (l ++ (b :: a :: m)) l.length = a := by unfold lowAt; rw [g0, g1]; omega
  have hh : highAt (l ++ (b :: a :: m)) l.length = b := by unfold highAt; rw [g0, g1]; omega
  unfold arcsL
  refine List.mem_map.mpr ⟨l.length, List.mem_filter.mpr ⟨List.mem_range.mpr (by simp), ?_⟩, ?_⟩
  · unfold isFall
    rw [g0, g1, decide_eq_true hlt]
    rfl
  · unfold arcOf
    have : aheadAt (l ++ (b :: a :: m)) l.length = S := asc_unique (aheadAt_asc h.ok _) ha.asc fun x => by
      rw [aheadAt_mem, hl, hh, List.take_left' rfl]
      constructor
      · rintro ⟨c, d1, d2⟩
        by_cases z : x ∈ S
        · exact z
        · have m1 := h2 x d1 d2 z
          have nd := h.ok.nodup
          rw [List.nodup_append] at nd
          exact (nd.2.2 x c x (List.mem_cons_of_mem _ (List.mem_cons_of_mem _ m1)) rfl).elim
      · intro hx
        exact ⟨h1 x hx, ha.mem x hx⟩
    rw [hl, hh, this]
theorem HasFall.le {n a b : Int} {S r : List Int} (h : HasFall n a b S r) (ha : ArcOk n a b S) : LeR (singleL n a b S) r := fun p q z => by
  obtain ⟨h1, h2, h3⟩ := (single_tur ha).mp z
  obtain ⟨l, m, rfl, h4, h5⟩ := h.parts
  refine ⟨h1, ?_⟩
  rw [show l ++ (b :: a :: m) = (l ++ [b]) ++ (a :: m) by simp]
  refine bef_app ?_ ?_
  · rcases h2 with h2 | h2
    · exact List.mem_append_left _ (h4 q h2)
    · rw [h2]
      simp
  · rcases h3 with h3 | ⟨h3, h6, h7⟩
    · rw [h3]
      simp
    · exact List.mem_cons_of_mem _ (h5 p h3 h6 h7)
/-! all rows of up to five numbers, in the order in which they are gone through -/
def permsK (n : Nat) : List (List Nat) := List.range n :: ((Kp.runP n n 1000 (List.range n ++ (List.range n).map fun i => n - i)).getD [])
def rowsAll (n : Int) : List (List Int) := (permsK n.toNat).map fun r => r.map fun (k : Nat) => 1 + (k : Int)
def nwords (al : List Int) : Nat → List (List Int)
  | 0 => [[]]
  | k + 1 => (nwords al k).flatMap fun r => (al.filter fun x => !r.contains x).map fun x => x :: r
theorem nwords_mem {al : List Int} : ∀ {r : List Int}, r.Nodup → (∀ x ∈ r, x ∈ al) → r ∈ nwords al r.length
  | [], _, _ => List.mem_singleton.mpr rfl
  | x :: r, nd, h => by
    rw [List.nodup_cons] at nd
    show x :: r ∈ (nwords al r.length).flatMap _
    rw [List.mem_flatMap]
    refine ⟨r, nwords_mem nd.2 fun y hy => h y (List.mem_cons_of_mem _ hy), List.mem_map.mpr ⟨x, List.mem_filter.mpr ⟨h x List.mem_cons_self, ?_⟩, rfl⟩⟩
    simp [nd.1]
theorem perms_ok : ∀ n : Nat, n < 6 → Kp.IsPerms n (permsK n) := by
  intro n hn
  have : n = 0 ∨ n = 1 ∨ n = 2 ∨ n = 3 ∨ n = 4 ∨ n = 5 := by omega
  rcases this with rfl | rfl | rfl | rfl | rfl | rfl
  all_goals exact ⟨_, rfl, by decide, by decide +kernel, by decide +kernel, by decide +kernel⟩
theorem allrows_in : ∀ n : Nat, n < 6 → ∀ r ∈ rowsAll n, r.isPerm (rgN 1 n) = true := by decide +kernel
theorem allrows_all : ∀ n : Nat, n < 6 → ∀ r ∈ nwords (rgN 1 n) n, r ∈ rowsAll n := by decide +kernel
theorem allrows_nd : ∀ n : Nat, n < 6 → (rowsAll n).Nodup := by decide +kernel
theorem rowsAll_iff {n : Int} {r : List Int} (h0 : 0 ≤ n) (h5 : n ≤ 5) : r ∈ rowsAll n ↔ RowOk n r := by
  obtain ⟨m, rfl⟩ := Int.eq_ofNat_of_zero_le h0
  constructor
  · intro h
    exact ⟨List.isPerm_iff.mp (allrows_in m (by omega) r h), h0, by omega⟩
  · intro h
    have hl := h.len
    have e : r.length = m := by omega
    have := nwords_mem (al := rgN 1 m) h.nodup fun x hx => h.perm.mem_iff.mp hx
    rw [e] at this
    exact allrows_all m (by omega) r this
theorem rowsAll_nodup {n : Int} (h0 : 0 ≤ n) (h5 : n ≤ 5) : (rowsAll n).Nodup := by
  obtain ⟨m, rfl⟩ := Int.eq_ofNat_of_zero_le h0
  exact allrows_nd m (by omega)
theorem rowsAll_len {n : Int} (h0 : 0 ≤ n) (h5 : n ≤ 5) : 1 ≤ (rowsAll n).length ∧ (rowsAll n).length ≤ 120 := by
  obtain ⟨m, rfl⟩ := Int.eq_ofNat_of_zero_le h0
  have : ∀ m : Nat, m < 6 → 1 ≤ (rowsAll m).length ∧ (rowsAll m).length ≤ 120 := by decide +kernel
  exact this m (by omega)
theorem allrows_asc : ∀ n : Nat, n < 6 → ((rowsAll n).map rowD).Pairwise fun a b => PySem.W.dataLe false id a b = true := by decide +kernel

def C_all_rows : Con := fun _ es P => ∃ n : Int, es = [.dat (.int n)] ∧ 1 ≤ n ∧ n ≤ 5 ∧ P (.dat (.tuple ((rowsAll n).map rowD)))
theorem ok_all_rows (T : Tx K mg) : FnOk P w K mg base CX0 1 T.f_all_rows T.d_all_rows ["n"] (SpC K C_all_rows) := by
  refine kfn T.F_all_rows sc_all_rows (fun W es P ⟨_, h, _⟩ => by rw [h]; rfl) fun cdv A outer s H E hr => ⟨_, (pss_one (ps_ret (Kp.pe_tupPm rfl (by rfl) T.m_tuple (by rfl) T.p_permutations (prg_2 (by rfl) T.m_range pe_int (pe_op (op_addK (K := K) rfl) (pv 0) pe_int))))), fun W es P hC => ?_⟩
  obtain ⟨n, rfl, h1, h5, q⟩ := hC
  try dsimp only [cx_K, cx_w]
  walk_at "ka"
  refine ⟨⟨by omega, by omega, by omega, by omega, by omega⟩, permsK (n + 1 - 1).toNat, perms_ok _ (by omega), ?_⟩
  have e : (permsK (n + 1 - 1).toNat).map (fun r => PyData.tuple ((r.map fun (k : Nat) => 1 + (k : Int)).map PyData.int)) = (rowsAll n).map rowD := by
    unfold rowsAll
    rw [List.map_map, show n + 1 - 1 = n by omega]
    rfl
  rw [e]
  exact ⟨Wd.Le.refl W, q⟩

def isArcD (n : Int) : PyData → Bool
  | .tuple [x, y, z] => (numIn x 1 n && numIn y (intOf x + 1) n) && (ascNums z && ((itemsOf z).map intOf).all fun p => decide (intOf x < p) && decide (p < intOf y))
  | _ => false
/-- the size of what stands third -/
def thirdOf : PyData → List PyData
  | .tuple [_, _, z] => itemsOf z
  | _ => []
theorem isArcD_of {n a b : Int} {S : List Int} (h : ArcOk n a b S) : isArcD n (arcD a b S) = true := by
  have h1 := h.lo
  have h2 := h.lt
  have h3 := h.hi
  show ((numIn (.int a) 1 n && numIn (.int b) (a + 1) n) && (ascNums (.tuple (intsD S)) && ((intsD S).map intOf).all fun p => decide (a < p) && decide (p < b))) = true
  have e1 : numIn (.int a) 1 n = true := by
    show (true && (decide (1 ≤ a) && decide (a ≤ n))) = true
    rw [decide_eq_true h1, decide_eq_true (by omega : a ≤ n)]
    rfl
  have e2 : numIn (.int b) (a + 1) n = true := by
    show (true && (decide (a + 1 ≤ b) && decide (b ≤ n))) = true
    rw [decide_eq_true (by omega : a + 1 ≤ b), decide_eq_true h3]
    rfl
  have e3 : ascNums (.tuple (intsD S)) = true := by
    show ((true && (intsD S).all isInt) && decide (((intsD S).map intOf).Pairwise (· < ·))) = true
    rw [ints_all, ints_intOf, decide_eq_true h.asc]
    rfl
  rw [e1, e2, e3, ints_intOf]
  refine List.all_eq_true.mpr fun p hp => ?_
  have := h.mem p hp
  rw [decide_eq_true this.1, decide_eq_true this.2]
  rfl
theorem isArcD_not {n : Int} {d : PyData} (h : ¬ ∃ x y z, d = .tuple [x, y, z]) : isArcD n d = false := by
  unfold isArcD
  split
  · rename_i x y z
    exact absurd ⟨x, y, z, rfl⟩ h
  · rfl
def C_is_arc : Con := fun _ es P => ∃ n d, es = [.dat (.int n), .dat d] ∧ (thirdOf d).length < 64 ∧ SeqAt.shaped d = true ∧ P (.dat (.bool (isArcD n d)))
theorem ok_is_arc (T : Tx K mg) : FnOk P w K mg base CX0 4 T.f_is_arc T.d_is_arc ["n", "thing"] (SpC K C_is_arc) := by
  refine kfn T.F_is_arc sc_is_arc (fun W es P ⟨_, _, h, _⟩ => by rw [h]; rfl) fun cdv A outer s H E hr => ⟨_, (pss_cons (ps_if (PW.pt (pw_or (pt_not (pt_val (pe_callB (cr_isiK (K := K) rfl) (by rfl) T.m_isinstance (by decide +kernel) (pa_cons (pv 1) (pa_cons (pe_bltn (v := .ty "tuple") (by rfl) T.m_tuple (by decide +kernel) rfl) pa_nil))))) (pw_or1 (pt_cmpR (op_neK (K := K) rfl hr.units) (pe_callB (cr_lenK (K := K) rfl) (by rfl) T.m_len (by decide +kernel) (pa_cons (pv 1) pa_nil)) pe_int (nomark _))))) (pss_one (ps_ret pe_bl)) pss_nil)
      (pss_cons (ps_asg (pv 1) (pg_tupK (K := K) rfl (pg_tup (n := 3) rfl (pgs_cons (pg_name (i := 2) sc_is_arc.nd rfl (by first | exact Or.inl rfl | exact Or.inr rfl)) (pgs_cons (pg_name (i := 3) sc_is_arc.nd rfl (by first | exact Or.inl rfl | exact Or.inr rfl)) (pgs_cons (pg_name (i := 4) sc_is_arc.nd rfl (by first | exact Or.inl rfl | exact Or.inr rfl)) pgs_nil))))))
      (pss_cons (ps_if (PW.pt (pw_or (pt_not (pt_val (pe_call (ok_is_number_from T) (hr.mono (by decide)) (by rfl) T.g_is_number_from T.F_is_number_from.kp T.b_is_number_from .nil pass0 (pa_cons (pv 2) (pa_cons pe_int (pa_cons (pv 0) pa_nil)))))) (pw_or1 (pt_not (pt_val (pe_call (ok_is_number_from T) (hr.mono (by decide)) (by rfl) T.g_is_number_from T.F_is_number_from.kp T.b_is_number_from .nil pass0 (pa_cons (pv 3) (pa_cons (pe_op (op_addK (K := K) rfl) (pv 2) pe_int) (pa_cons (pv 0) pa_nil))))))))) (pss_one (ps_ret pe_bl)) pss_nil)
      (pss_one (ps_ret (pe_and (pe_call (ok_are_ascending_numbers T) hr (by rfl) T.g_are_ascending_numbers T.F_are_ascending_numbers.kp T.b_are_ascending_numbers .nil pass0 (pa_cons (pv 4) pa_nil)) (pe_one (pe_callB (cr_allK (K := K) rfl rfl) (by rfl) T.m_all (by decide +kernel) (pa_cons (pe_lc (own := [("p", 5)]) rfl sc_is_arc.nd (pi_seqK (K := K) rfl (pv 4)) (blkOk_by (N := N_is_arc) (sc := defScope s_is_arc) (by decide +kernel)) (fun _ _ _ _ _ => (pg_name (i := 5) sc_is_arc.nd rfl (by first | exact Or.inl rfl | exact Or.inr rfl))) (fun _ _ _ _ _ => pts_nil) (fun _ _ _ _ _ => (pe_chain op_lt op_lt (pv 2) (pv 5) (pv 3)))) pa_nil))))))))), fun W es P hC => ?_⟩
  obtain ⟨n, d, rfl, hz, hsh, q⟩ := hC
  try dsimp only [cx_K, cx_w]
  refine ds_seq ?_
  walk_at "ka"
  refine cal_isi (kit_tuple d) ⟨_, rfl, fun e => ?_, fun e => ?_⟩
  · obtain ⟨ds, rfl⟩ : ∃ ds, d = .tuple ds := ⟨_, isTup_eq (by cases h : isTup d with | true => rfl | false => rw [h] at e; cases e)⟩
    walk_at "ka"
    refine opd_ne (by rfl) (by rfl) ⟨_, rfl, fun e2 => ?_, fun e2 => ?_⟩
    · walk_at "ka"
      have hn : ¬ ∃ x y z, (PyData.tuple ds) = .tuple [x, y, z] := fun ⟨x, y, z, h⟩ => by
        cases h
        simp [PyData.eqv] at e2
      rw [isArcD_not hn] at q
      exact ⟨Wd.Le.refl W, q⟩
    · have h3 : ds.length = 3 := by
        have z : (!decide ((ds.length : Int) = 3)) = false := e2
        simp only [Bool.not_eq_false', decide_eq_true_eq] at z
        omega
      obtain ⟨x, y, z, rfl⟩ : ∃ x y z, ds = [x, y, z] := by
        match ds, h3 with
        | [x, y, z], _ => exact ⟨x, y, z, rfl⟩
      walk_at "ka"
      refine ⟨_, _, tg_tup3, ?_⟩
      refine ds_seq ?_
      walk_at "ka"
      refine ⟨x, 1, n, rfl, _, rfl, fun e3 => ?_, fun e3 => ⟨fun _ => ?_, nofun⟩⟩
      · -- a is a number from 1 to n
        have e3 : numIn x 1 n = true := by simpa using e3
        obtain ⟨a, rfl⟩ : ∃ a, x = .int a := ⟨_, isInt_eq (by unfold numIn at e3; rw [Bool.and_eq_true] at e3; exact e3.1)⟩
        walk_at "ka"
        refine ⟨y, a + 1, n, rfl, _, rfl, fun e4 => ?_, fun e4 => ?_⟩
        · walk_at "ka"
          have q' : P (.dat (.bool ((numIn (.int a) 1 n && numIn y (a + 1) n) && (ascNums z && ((itemsOf z).map intOf).all fun p => decide (a < p) && decide (p < intOf y))))) := q
          have e4 : numIn y (a + 1) n = false := by simpa using e4
          rw [e4, Bool.and_false, Bool.false_and] at q'
          exact ⟨Wd.Le.refl W, q'⟩
        · have e4 : numIn y (a + 1) n = true := by simpa using e4
          obtain ⟨b, rfl⟩ : ∃ b, y = .int b := ⟨_, isInt_eq (by unfold numIn at e4; rw [Bool.and_eq_true] at e4; exact e4.1)⟩
          have q' : P (.dat (.bool ((numIn (.int a) 1 n && numIn (.int b) (a + 1) n) && (ascNums z && ((itemsOf z).map intOf).all fun p => decide (a < p) && decide (p < b))))) := q
          rw [e3, e4, Bool.true_and] at q'
          walk_at "ka"
          refine ⟨z, rfl, hz, _, rfl, fun e5 => ?_, fun e5 => ⟨Wd.Le.refl W, ?_⟩⟩
          · obtain ⟨ns, rfl⟩ : ∃ ns, z = .tuple (intsD ns) := by
              unfold ascNums areInts at e5
              rw [Bool.and_eq_true, Bool.and_eq_true] at e5
              exact ⟨(itemsOf z).map intOf, by rw [← all_ints e5.1.2]; exact isTup_eq e5.1.1⟩
            have hl : ns.length < 64 := by
              have e : (itemsOf (.tuple (intsD ns))).length = ns.length := List.length_map ..
              have hz : (itemsOf (.tuple (intsD ns))).length < 64 := hz
              omega
            walk_at "ka"
            refine de_lcM ns (fun p => DV.dat (.int p)) (fun _ => true) (fun p => .bool (decide (a < p) && decide (p < b))) (di_seqT ?_) (by omega) ?_ ?_
            · walk_at "ka"
              show (intsD ns).map DV.dat = _
              unfold intsD
              rw [List.map_map]
              rfl
            · intro p hp W' hW
              refine ⟨_, _, tg_name, by simp, ?_⟩
              walk_at "ka"
              refine ⟨rfl, fun _ => ?_⟩
              walk_at "ka"
              refine ⟨fun e6 => ?_, fun e6 => by rw [e6]; rfl⟩
              walk_at "ka"
              rw [e6]
              rfl
            · walk_at "ka"
              rw [List.filter_eq_self.mpr (fun _ _ => rfl)]
              have e2 : ns.map (fun p => PyData.bool (decide (a < p) && decide (p < b))) = (ns.map fun p => decide (a < p) && decide (p < b)).map PyData.bool := by rw [List.map_map]; rfl
              rw [e2]
              refine cal_all ⟨Wd.Le.refl W, ?_⟩
              rw [List.all_map]
              have e7 : (itemsOf (.tuple (intsD ns))).map intOf = ns := ints_intOf ns
              rw [e7, e5, Bool.true_and] at q'
              exact q'
          · rw [e5] at q'
            exact q'
      · walk_at "ka"
        have e3 : numIn x 1 n = false := by simpa using e3
        have q' : P (.dat (.bool ((numIn x 1 n && numIn y (intOf x + 1) n) && (ascNums z && ((itemsOf z).map intOf).all fun p => decide (intOf x < p) && decide (p < intOf y))))) := q
        rw [e3, Bool.false_and, Bool.false_and] at q'
        exact ⟨Wd.Le.refl W, q'⟩
  · have hn : ¬ ∃ x y z, d = .tuple [x, y, z] := fun ⟨x, y, z, h⟩ => by
      subst h
      cases e
    rw [isArcD_not hn] at q
    refine ⟨fun _ => ?_, nofun⟩
    walk_at "ka"
    exact ⟨Wd.Le.refl W, q⟩

def C_narrowed : Con := fun _ es P => ∃ a b S c d, es = [.dat (arcD a b S), .dat (.int c), .dat (.int d)] ∧ S.length ≤ 1000 ∧ P (.dat (arcD c d (betw c d S)))
theorem intsD_dat (ns : List Int) : (intsD ns).map DV.dat = ns.map fun p => DV.dat (.int p) := by
  unfold intsD
  rw [List.map_map]
  rfl
theorem ok_narrowed (T : Tx K mg) : FnOk P w K mg base CX0 1 T.f_narrowed T.d_narrowed ["arc", "c", "d"] (SpC K C_narrowed) := by
  refine kfn T.F_narrowed sc_narrowed (fun W es P ⟨_, _, _, _, _, h, _⟩ => by rw [h]; rfl) fun cdv A outer s H E hr => ⟨_, (pss_one (ps_ret (pe_tup (pa_cons (pv 1) (pa_cons (pv 2) (pa_cons (pe_callTy (cr_tupK (K := K) rfl) (by rfl) T.m_tuple (by decide +kernel) (pa_cons (pe_lc (own := [("p", 3)]) rfl sc_narrowed.nd (pi_seqK (K := K) rfl (pe_ix (ix_K (K := K) rfl) (pv 0) pe_int (fun _ _ => rfl))) (blkOk_by (N := N_narrowed) (sc := defScope s_narrowed) (by decide +kernel)) (fun _ _ _ _ _ => (pg_name (i := 3) sc_narrowed.nd rfl (by first | exact Or.inl rfl | exact Or.inr rfl))) (fun _ _ _ _ _ => (pts_one (pt_chain op_lt op_lt (pv 1) (pv 3) (pv 2)))) (fun _ _ _ _ _ => (pv 3))) pa_nil)) pa_nil)))))), fun W es P hC => ?_⟩
  obtain ⟨a, b, S, c, d, rfl, hz, q⟩ := hC
  try dsimp only [cx_K, cx_w]
  walk_at "ka"
  refine de_lcM S (fun p => DV.dat (.int p)) (fun p => decide (c < p) && decide (p < d)) (fun p => .int p) (di_seqT ?_) (by omega) ?_ ?_
  · unfold arcD
    walk_at "ka"
    refine opd_ixT (atI_nat (j := 2) rfl) ⟨_, rfl, intsD_dat S⟩
  · intro p hp W' hW
    refine ⟨_, _, tg_name, by simp, ?_⟩
    walk_at "ka"
    refine ⟨fun e => ?_, fun e => ⟨_, rfl, ?_⟩⟩
    · walk_at "ka"
      refine ⟨by rw [e, Bool.true_and], fun e2 => ?_⟩
      walk_at "ka"
      rfl
    · rw [e, Bool.false_and]
      exact ⟨rfl, nofun⟩
  · walk_at "ka"
    exact ⟨Wd.Le.refl W, q⟩

/-- arcs, told apart -/
abbrev Arc3 := Int × Int × List Int
def arcT (p : Arc3) : PyData := arcD p.1 p.2.1 p.2.2
theorem arcT_arcs (L : List Arc3) : ArcL (L.map arcT) := fun x hx => by
  obtain ⟨p, _, rfl⟩ := List.mem_map.mp hx
  exact ⟨_, _, _, rfl⟩
theorem shaped_arc {a b : Int} {S : List Int} : SeqAt.shaped (arcD a b S) = true := by
  simp [SeqAt.shaped, arcD, PyData.canLay0, PyData.canLayAll0, canLay_ints, PyData.depth, PyData.depthAll, depth_intsD]
theorem third_arc {a b : Int} {S : List Int} : (thirdOf (arcD a b S)).length = S.length := List.length_map ..
def C_are_arcs : Con := fun _ es P => ∃ (n : Int) (L : List Arc3), es = [.dat (.int n), .dat (.tuple (L.map arcT))] ∧ (∀ p ∈ L, ArcOk n p.1 p.2.1 p.2.2) ∧ n ≤ 60 ∧ L.length ≤ 50000 ∧ P (.dat (.bool true))
theorem all_true : ∀ {l : List Bool}, (∀ b ∈ l, b = true) → l.all id = true := fun h => List.all_eq_true.mpr fun b m => h b m
theorem ok_are_arcs (T : Tx K mg) : FnOk P w K mg base CX0 5 T.f_are_arcs T.d_are_arcs ["n", "thing"] (SpC K C_are_arcs) := by
  refine kfn T.F_are_arcs sc_are_arcs (fun W es P ⟨_, _, h, _⟩ => by rw [h]; rfl) fun cdv A outer s H E hr => ⟨_, (pss_one (ps_ret (pe_and (pe_callB (cr_isiK (K := K) rfl) (by rfl) T.m_isinstance (by decide +kernel) (pa_cons (pv 1) (pa_cons (pe_bltn (v := .ty "tuple") (by rfl) T.m_tuple (by decide +kernel) rfl) pa_nil))) (pe_one (pe_callB (cr_allK (K := K) rfl rfl) (by rfl) T.m_all (by decide +kernel) (pa_cons (pe_lc (own := [("arc", 2)]) rfl sc_are_arcs.nd (pi_seqK (K := K) rfl (pv 1)) (blkOk_by (N := N_are_arcs) (sc := defScope s_are_arcs) (by decide +kernel)) (fun _ _ _ _ _ => (pg_name (i := 2) sc_are_arcs.nd rfl (by first | exact Or.inl rfl | exact Or.inr rfl))) (fun _ _ _ _ _ => pts_nil) (fun _ _ _ _ _ => (pe_call (ok_is_arc T) hr (by rfl) T.g_is_arc T.F_is_arc.kp T.b_is_arc .nil pass0 (pa_cons (pv 0) (pa_cons (pv 2) pa_nil))))) pa_nil)))))), fun W es P hC => ?_⟩
  obtain ⟨n, L, rfl, hL, hn, hz, q⟩ := hC
  try dsimp only [cx_K, cx_w]
  walk_at "ka"
  refine cal_isi (kit_tuple _) ⟨_, rfl, fun _ => ?_, nofun⟩
  walk_at "ka"
  refine de_lcM L (fun p => DV.dat (arcT p)) (fun _ => true) (fun _ => .bool true) (di_seqT ?_) hz ?_ ?_
  · walk_at "ka"
    exact List.map_map ..
  · intro p hp W' hW
    have ha := hL p hp
    have h4 := ha.len
    have h1 := ha.lo
    have h3 := ha.hi
    refine ⟨_, _, tg_name, by simp, ?_⟩
    walk_at "ka"
    refine ⟨rfl, fun _ => ?_⟩
    walk_at "ka"
    refine ⟨n, arcT p, rfl, by unfold arcT; rw [third_arc]; omega, shaped_arc, ?_⟩
    rw [show isArcD n (arcT p) = true from isArcD_of ha]
  · walk_at "ka"
    rw [List.filter_eq_self.mpr (fun _ _ => rfl)]
    have e : L.map (fun _ => PyData.bool true) = (L.map fun _ => true).map PyData.bool := by rw [List.map_map]; rfl
    rw [e]
    refine cal_all ⟨Wd.Le.refl W, ?_⟩
    rw [all_true fun b m => by obtain ⟨_, _, rfl⟩ := List.mem_map.mp m; rfl]
    exact q

/-- all choices among numbers, as they are found -/
def choL (l : List Int) : List (List Int) := l.foldl (fun acc p => acc ++ acc.map (· ++ [p])) [[]]
theorem choL_snoc (l : List Int) (p : Int) : choL (l ++ [p]) = choL l ++ (choL l).map (· ++ [p]) := by
  unfold choL
  rw [List.foldl_append]
  rfl
theorem choL_len (a : Int) : ∀ k : Nat, (choL (rgN a k)).length = 2 ^ k
  | 0 => rfl
  | k + 1 => by
    rw [rgN_succ, choL_snoc, List.length_append, List.length_map, choL_len a k, Nat.pow_succ]
    omega
theorem choL_mem (a : Int) : ∀ (k : Nat) (S : List Int), S ∈ choL (rgN a k) ↔ S.Pairwise (· < ·) ∧ ∀ p ∈ S, a ≤ p ∧ p < a + k
  | 0, S => by
    show S ∈ [[]] ↔ _
    rw [List.mem_singleton]
    constructor
    · rintro rfl
      exact ⟨.nil, by simp⟩
    · rintro ⟨_, h⟩
      cases S with
      | nil => rfl
      | cons x _ =>
        have := h x (by simp)
        omega
  | k + 1, S => by
    rw [rgN_succ, choL_snoc, List.mem_append, List.mem_map]
    constructor
    · rintro (h | ⟨R, h, rfl⟩)
      · obtain ⟨h1, h2⟩ := (choL_mem a k S).mp h
        exact ⟨h1, fun p hp => by have := h2 p hp; omega⟩
      · obtain ⟨h1, h2⟩ := (choL_mem a k R).mp h
        refine ⟨?_, fun p hp => ?_⟩
        · rw [List.pairwise_append]
          refine ⟨h1, List.pairwise_singleton .., fun p hp x hx => ?_⟩
          rw [List.mem_singleton] at hx
          have := h2 p hp
          omega
        · rcases List.mem_append.mp hp with hp | hp
          · have := h2 p hp
            omega
          · rw [List.mem_singleton] at hp
            omega
    · rintro ⟨h1, h2⟩
      by_cases hm : a + k ∈ S
      · right
        obtain ⟨R, hR⟩ : ∃ R, S = R ++ [a + k] := by
          rcases List.eq_nil_or_concat S with e | ⟨R, x, e⟩
          · rw [e] at hm
            cases hm
          · rw [List.concat_eq_append] at e
            refine ⟨R, ?_⟩
            rw [e] at hm h1 h2 ⊢
            rw [List.pairwise_append] at h1
            rcases List.mem_append.mp hm with hm | hm
            · have := h1.2.2 _ hm x (by simp)
              have := h2 x (by simp)
              omega
            · rw [List.mem_singleton] at hm
              rw [hm]
        refine ⟨R, (choL_mem a k R).mpr ⟨?_, fun p hp => ?_⟩, hR.symm⟩
        · rw [hR, List.pairwise_append] at h1
          exact h1.1
        · have z := h2 p (by rw [hR]; simp [hp])
          rw [hR, List.pairwise_append] at h1
          have := h1.2.2 p hp (a + k) (by simp)
          omega
      · left
        refine (choL_mem a k S).mpr ⟨h1, fun p hp => ?_⟩
        have := h2 p hp
        have : p ≠ a + k := fun e => hm (e ▸ hp)
        omega
def arcsAt (a b : Int) : List Arc3 := (choL (rgN (a + 1) (b - (a + 1)).toNat)).map fun S => (a, b, S)
def arcsTo (n : Int) (as : List Int) : List Arc3 := as.flatMap fun a => (rgN (a + 1) (n - a).toNat).flatMap (arcsAt a)
def arcsN (n : Int) : List Arc3 := arcsTo n (rgN 1 n.toNat)
theorem arcsN_mem {n : Int} (h0 : 0 ≤ n) {p : Arc3} : p ∈ arcsN n ↔ ArcOk n p.1 p.2.1 p.2.2 := by
  unfold arcsN arcsTo arcsAt
  rw [List.mem_flatMap]
  constructor
  · rintro ⟨a, ha, h⟩
    obtain ⟨b, hb, h⟩ := List.mem_flatMap.mp h
    obtain ⟨S, hS, rfl⟩ := List.mem_map.mp h
    rw [rgN_mem] at ha hb
    obtain ⟨h1, h2⟩ := (choL_mem _ _ _).mp hS
    exact ⟨by show 1 ≤ a; omega, by show a < b; omega, by show b ≤ n; omega, h1, fun p hp => by have := h2 p hp; show a < p ∧ p < b; omega⟩
  · rintro h
    have h1 := h.lo
    have h2 := h.lt
    have h3 := h.hi
    refine ⟨p.1, rgN_mem.mpr (by omega), List.mem_flatMap.mpr ⟨p.2.1, rgN_mem.mpr (by omega), List.mem_map.mpr ⟨p.2.2, (choL_mem _ _ _).mpr ⟨h.asc, fun x hx => ?_⟩, rfl⟩⟩⟩
    have := h.mem x hx
    omega
theorem arcsAt_len {a b : Int} : (arcsAt a b).length = 2 ^ (b - (a + 1)).toNat := by
  unfold arcsAt
  rw [List.length_map, choL_len]

/-- the two arcs within, shorter by one -/
def short3 (p : Arc3) : List Arc3 := if p.2.1 - p.1 = 1 then [] else [(p.1, p.2.1 - 1, betw p.1 (p.2.1 - 1) p.2.2), (p.1 + 1, p.2.1, betw (p.1 + 1) p.2.1 p.2.2)]
theorem arcT_inj {p q : Arc3} (h : arcT p = arcT q) : p = q := by
  unfold arcT arcD at h
  injection h with h
  injection h with h1 h
  injection h with h2 h
  injection h with h3 h
  injection h1 with h1
  injection h2 with h2
  injection h3 with h3
  refine Prod.ext h1 (Prod.ext h2 ?_)
  have : ∀ {S R : List Int}, intsD S = intsD R → S = R := fun {S R} e => by
    induction S generalizing R with
    | nil =>
      cases R with
      | nil => rfl
      | cons _ _ => cases e
    | cons x S ih =>
      cases R with
      | nil => cases e
      | cons y R =>
        injection (show PyData.int x :: intsD S = PyData.int y :: intsD R from e) with e1 e2
        injection e1 with e1
        rw [e1, ih e2]
  exact this h3
structure RuleOk (n : Int) (L : List Arc3) : Prop where
  ok : ∀ p ∈ L, ArcOk n p.1 p.2.1 p.2.2
  nd : L.Nodup
  srt : (L.map arcT).Pairwise fun x y => PySem.W.dataLe false id x y = true
  closed : ∀ p ∈ L, ∀ q ∈ short3 p, q ∈ L
theorem arcs_back : ∀ {l : List PyData}, ArcL l → ∃ A : List Arc3, l = A.map arcT
  | [], _ => ⟨[], rfl⟩
  | d :: l, h => by
    obtain ⟨a, b, S, rfl⟩ := h d (by simp)
    obtain ⟨A, rfl⟩ := arcs_back (l := l) fun x hx => h x (List.mem_cons_of_mem _ hx)
    exact ⟨(a, b, S) :: A, rfl⟩
/-- all arcs, in order -/
theorem arcs_sorted (n : Int) : ∃ A : List Arc3, ((arcsN n).map arcT).mergeSort (PySem.W.dataLe false id) = A.map arcT ∧ ∀ p, p ∈ A ↔ p ∈ arcsN n := by
  have hp := List.mergeSort_perm ((arcsN n).map arcT) (PySem.W.dataLe false id)
  obtain ⟨A, hA⟩ := arcs_back (l := ((arcsN n).map arcT).mergeSort (PySem.W.dataLe false id)) fun x hx => arcT_arcs _ x (hp.mem_iff.mp hx)
  refine ⟨A, hA, fun p => ?_⟩
  rw [hA] at hp
  have := hp.mem_iff (a := arcT p)
  rw [List.mem_map, List.mem_map] at this
  constructor
  · intro h
    obtain ⟨q, hq, e⟩ := this.mp ⟨p, h, rfl⟩
    rw [← arcT_inj e]
    exact hq
  · intro h
    obtain ⟨q, hq, e⟩ := this.mpr ⟨p, h, rfl⟩
    rw [← arcT_inj e]
    exact hq
theorem short3_ok {n : Int} {p q : Arc3} (h : ArcOk n p.1 p.2.1 p.2.2) (hq : q ∈ short3 p) : ArcOk n q.1 q.2.1 q.2.2 := by
  have h1 := h.lo
  have h2 := h.lt
  have h3 := h.hi
  unfold short3 at hq
  by_cases e : p.2.1 - p.1 = 1
  · rw [if_pos e] at hq
    cases hq
  · rw [if_neg e] at hq
    have asc : ∀ c d, (betw c d p.2.2).Pairwise (· < ·) := fun c d => h.asc.sublist List.filter_sublist
    rcases List.mem_cons.mp hq with rfl | hq
    · refine ⟨h1, by show p.1 < p.2.1 - 1; omega, by show p.2.1 - 1 ≤ n; omega, asc _ _, fun x hx => ?_⟩
      exact (betw_mem.mp hx).2
    · rw [List.mem_singleton] at hq
      subst hq
      refine ⟨by show 1 ≤ p.1 + 1; omega, by show p.1 + 1 < p.2.1; omega, h3, asc _ _, fun x hx => ?_⟩
      exact (betw_mem.mp hx).2
theorem choL_nodup (a : Int) : ∀ k : Nat, (choL (rgN a k)).Nodup
  | 0 => by simp [choL, rgN]
  | k + 1 => by
    rw [rgN_succ, choL_snoc]
    refine List.nodup_append.mpr ⟨choL_nodup a k, List.pairwise_map.mpr ((choL_nodup a k).imp fun h e => h (List.append_cancel_right e)), fun x hx y hy e => ?_⟩
    obtain ⟨R, hR, rfl⟩ := List.mem_map.mp hy
    rw [e] at hx
    have := ((choL_mem a k _).mp hx).2 (a + k) (by simp)
    omega
theorem arcsN_nodup (n : Int) : (arcsN n).Nodup := by
  unfold arcsN arcsTo
  refine List.pairwise_flatMap.mpr ⟨fun a _ => ?_, rgN_asc.imp fun {x y} h u hu v hv e => ?_⟩
  · refine List.pairwise_flatMap.mpr ⟨fun b _ => ?_, rgN_asc.imp fun {x y} h u hu v hv e => ?_⟩
    · unfold arcsAt
      exact List.pairwise_map.mpr ((choL_nodup _ _).imp fun h e => h (Prod.mk.inj (Prod.mk.inj e).2).2)
    · unfold arcsAt at hu hv
      obtain ⟨_, _, rfl⟩ := List.mem_map.mp hu
      obtain ⟨_, _, rfl⟩ := List.mem_map.mp hv
      have := (Prod.mk.inj (Prod.mk.inj e).2).1
      omega
  · obtain ⟨_, _, hu⟩ := List.mem_flatMap.mp hu
    obtain ⟨_, _, hv⟩ := List.mem_flatMap.mp hv
    unfold arcsAt at hu hv
    obtain ⟨_, _, rfl⟩ := List.mem_map.mp hu
    obtain ⟨_, _, rfl⟩ := List.mem_map.mp hv
    have := (Prod.mk.inj e).1
    omega
/-- all arcs, in order, are a rule -/
theorem arcs_all (n : Int) (h0 : 0 ≤ n) : ∃ A : List Arc3, ((arcsN n).map arcT).mergeSort (PySem.W.dataLe false id) = A.map arcT ∧ (∀ p, p ∈ A ↔ ArcOk n p.1 p.2.1 p.2.2) ∧ RuleOk n A ∧ A.length = (arcsN n).length := by
  obtain ⟨A, hA, hm⟩ := arcs_sorted n
  have hm2 : ∀ p, p ∈ A ↔ ArcOk n p.1 p.2.1 p.2.2 := fun p => (hm p).trans (arcsN_mem h0)
  have hp := List.mergeSort_perm ((arcsN n).map arcT) (PySem.W.dataLe false id)
  have hl := hp.length_eq
  rw [hA, List.length_map, List.length_map] at hl
  have hs := List.pairwise_mergeSort le_trans3 le_either ((arcsN n).map arcT)
  rw [hA] at hs hp
  refine ⟨A, hA, hm2, ⟨fun p h => (hm2 p).mp h, ?_, hs, fun p h q hq => (hm2 q).mpr (short3_ok ((hm2 p).mp h) hq)⟩, hl⟩
  have : ((arcsN n).map arcT).Nodup := List.pairwise_map.mpr ((arcsN_nodup n).imp fun h e => h (arcT_inj e))
  have := hp.nodup_iff.mpr this
  exact (List.pairwise_map.mp this).imp fun h e => h (by rw [e])
/-- a part of the arcs that is closed is a rule -/
theorem RuleOk.part {n : Int} {A : List Arc3} (h : RuleOk n A) (f : Arc3 → Bool) (hf : ∀ p q, f p = true → q ∈ short3 p → f q = true) : RuleOk n (A.filter f) := by
  refine ⟨fun p hp => h.ok p (List.mem_filter.mp hp).1, h.nd.sublist List.filter_sublist, ?_, fun p hp q hq => ?_⟩
  · exact h.srt.sublist (List.filter_sublist.map arcT)
  · obtain ⟨h1, h2⟩ := List.mem_filter.mp hp
    exact List.mem_filter.mpr ⟨h.closed p h1 q hq, hf p q h2 hq⟩

theorem mem_take_snoc {α : Type} {l : List α} {i : Nat} {x y : α} (h : l[i]? = some x) : y ∈ l.take (i + 1) ↔ y ∈ l.take i ∨ y = x := by
  rw [List.take_add_one, h]
  simp
def ArcKeys (m : List (PyData × PyData)) (L : List Arc3) : Prop := ∀ k, (getM m k).isSome = true ↔ k ∈ L.map fun p => kd (arcT p)
theorem okKeys_ints : ∀ S : List Int, okKeys (intsD S) = true
  | [] => rfl
  | x :: S => by
    show (okKey (.int x) && okKeys (intsD S)) = true
    rw [okKeys_ints S]
    rfl
theorem kds_ints : ∀ S : List Int, NestedKey.depthAll (kds (intsD S)) = 0
  | [] => rfl
  | x :: S => by
    show max (NestedKey.depth (kd (.int x))) (NestedKey.depthAll (kds (intsD S))) = 0
    rw [kds_ints S]
    rfl
theorem arc_key {p : Arc3} : TupKey (arcT p) := by
  refine ⟨⟨_, rfl⟩, ?_, ?_⟩
  · show okKeys [.int p.1, .int p.2.1, .tuple (intsD p.2.2)] = true
    simp [okKey, okKeys, okKeys_ints]
  · show (kd (.tuple [.int p.1, .int p.2.1, .tuple (intsD p.2.2)])).depth ≤ 8
    simp [kd, kds, NestedKey.depth, NestedKey.depthAll, kds_ints]
theorem kds_inj : ∀ {S R : List Int}, kds (intsD S) = kds (intsD R) → S = R
  | [], [], _ => rfl
  | [], _ :: _, h => by cases h
  | _ :: _, [], h => by cases h
  | x :: S, y :: R, h => by
    have h : kd (.int x) :: kds (intsD S) = kd (.int y) :: kds (intsD R) := h
    rw [List.cons.injEq] at h
    rw [kds_inj h.2]
    have := h.1
    simp only [kd, NestedKey.num.injEq] at this
    rw [this]
theorem arc_kd {p q : Arc3} (h : kd (arcT p) = kd (arcT q)) : p = q := by
  have h : kd (.tuple [.int p.1, .int p.2.1, .tuple (intsD p.2.2)]) = kd (.tuple [.int q.1, .int q.2.1, .tuple (intsD q.2.2)]) := h
  simp only [kd, kds] at h
  injection h with h
  injection h with h1 h
  injection h1 with h1
  injection h with h2 h
  injection h2 with h2
  injection h with h3 h
  injection h3 with h3
  exact Prod.ext h1 (Prod.ext h2 (kds_inj h3))
theorem ArcKeys.has {m : List (PyData × PyData)} {L : List Arc3} (h : ArcKeys m L) (p : Arc3) : (getM m (kd (arcT p))).isSome = decide (p ∈ L) := by
  rw [Bool.eq_iff_iff, h, List.mem_map, decide_eq_true_iff]
  constructor
  · rintro ⟨q, hq, e⟩
    rw [← arc_kd e]
    exact hq
  · exact fun hp => ⟨p, hp, rfl⟩
theorem ints_at2 {l : List Int} {i : Nat} {e : DV} (h : ((intsD l).map DV.dat)[i]? = some e) : ∃ x, l[i]? = some x ∧ e = .dat (.int x) := by
  unfold intsD at h
  rw [List.map_map, List.getElem?_map] at h
  cases q : l[i]? with
  | none =>
    rw [q] at h
    cases h
  | some x =>
    rw [q] at h
    cases h
    exact ⟨x, rfl, rfl⟩

theorem toks_arc {a b c d : Int} {S R : List Int} (h : PySem.W.keyToks (arcD a b S) = PySem.W.keyToks (arcD c d R)) : arcD a b S = arcD c d R := by
  simp only [arcD, PySem.W.keyToks, PySem.W.keyToksAll, List.cons_append, List.nil_append, List.cons.injEq, true_and, Sum.inl.injEq] at h
  obtain ⟨rfl, rfl, h⟩ := h
  rw [(toks_ints h).1]
/-! the mirror -/
/-! n + 1 - x for each x -/
/-! data that are shown: their size -/
structure Sh (d : PyData) (k m : Nat) : Prop where
  lay : d.canLay0 = true
  short : d.intsShort 13 = true
  dep : d.depth ≤ k
  wt : d.weight ≤ m
  sho : d.showable = true
structure Shs (ds : List PyData) (k m : Nat) : Prop where
  lay : PyData.canLayAll0 ds = true
  short : PyData.intsShortAll 13 ds = true
  dep : PyData.depthAll ds ≤ k
  wt : PyData.weightAll ds ≤ ds.length * (m + 1)
  sho : PyData.showableAll ds = true
theorem log2_small {n : Nat} (h : n < 1000000) : n.log2 < 20 := by
  by_cases h0 : n = 0
  · rw [h0]
    decide
  · exact (Nat.log2_lt h0).mpr (by omega)
theorem sh_int {i : Int} (h : i.natAbs < 1000000) (k : Nat) : Sh (.int i) k 20 := by
  have hl := log2_small h
  refine ⟨rfl, ?_, Nat.zero_le _, ?_, ?_⟩
  · simp only [PyData.intsShort, decide_eq_true_eq]
    exact PyData.shown_int_le (by omega)
  · show (if i == 0 then 0 else i.natAbs.log2 + 1) ≤ 20
    split <;> omega
  · simp only [PyData.showable, decide_eq_true_eq]
    omega
theorem Sh.up {d : PyData} {k k' m m' : Nat} (h : Sh d k m) (hk : k ≤ k') (hm : m ≤ m') : Sh d k' m' := ⟨h.lay, h.short, Nat.le_trans h.dep hk, Nat.le_trans h.wt hm, h.sho⟩
theorem shs_of {k m : Nat} : ∀ {ds : List PyData}, (∀ d ∈ ds, Sh d k m) → Shs ds k m
  | [], _ => ⟨rfl, rfl, Nat.zero_le _, Nat.zero_le _, rfl⟩
  | d :: ds, h => by
    have h1 := h d (by simp)
    have h2 := shs_of (ds := ds) fun x hx => h x (List.mem_cons_of_mem _ hx)
    refine ⟨?_, ?_, ?_, ?_, ?_⟩
    · simp only [PyData.canLayAll0, h1.lay, h2.lay, Bool.and_self]
    · simp only [PyData.intsShortAll, h1.short, h2.short, Bool.and_self]
    · have a := h1.dep
      have b := h2.dep
      simp only [PyData.depthAll]
      omega
    · have a := h1.wt
      have b := h2.wt
      simp only [PyData.weightAll, List.length_cons, Nat.add_mul]
      omega
    · simp only [PyData.showableAll, h1.sho, h2.sho, Bool.and_self]
theorem sh_tup {ds : List PyData} {k m : Nat} (h : ∀ d ∈ ds, Sh d k m) : Sh (.tuple ds) (k + 1) (ds.length * (m + 1)) := by
  have s := shs_of h
  have a := s.dep
  exact ⟨by simpa only [PyData.canLay0] using s.lay, by simpa only [PyData.intsShort] using s.short, by simp only [PyData.depth]; omega, by simpa only [PyData.weight] using s.wt, by simpa only [PyData.showable] using s.sho⟩
theorem sh_intsT {ns : List Int} (h : ∀ n ∈ ns, n.natAbs < 1000000) : Sh (.tuple (intsD ns)) 1 (ns.length * 21) := by
  have s := sh_tup (ds := intsD ns) (k := 0) (m := 20) fun d hd => by
    obtain ⟨n, hn, rfl⟩ := List.mem_map.mp hd
    exact sh_int (h n hn) 0
  have e : (intsD ns).length = ns.length := List.length_map ..
  rw [e] at s
  exact s
theorem cal_reprS {d : PyData} {k m : Nat} (h : Sh d k m) (hk : k ≤ 60) (hm : m ≤ 1048576) {W : Wd} {P : DV → Prop} (q : P (.dat (.str d.shown))) : CalD K W (rRepr K) [.dat d] P :=
  cal_repr h.sho (PyData.hasDict_of_canLay d h.lay) (Nat.le_trans h.dep hk) (PyData.shown_fits (B := 13) (by decide) (by decide) (PyData.leavesShort_of_canLay0 13 d h.lay h.short) (by have := h.wt; omega)) q
theorem Sh.shaped {d : PyData} {k m : Nat} (h : Sh d k m) (hk : k ≤ 64) : SeqAt.shaped d = true := by
  unfold SeqAt.shaped
  rw [h.lay, decide_eq_true (Nat.le_trans h.dep hk)]
  rfl
theorem canLay_all {ds : List PyData} (h : ∀ d ∈ ds, d.canLay0 = true) : PyData.canLayAll0 ds = true := by
  induction ds with
  | nil => rfl
  | cons d ds ih =>
    simp only [PyData.canLayAll0, h d (by simp), ih fun x hx => h x (List.mem_cons_of_mem _ hx), Bool.and_self]
theorem shs_dep {m : Nat} : ∀ {ds : List PyData}, (∀ d ∈ ds, d.depth ≤ m) → PyData.depthAll ds ≤ m
  | [], _ => Nat.zero_le _
  | d :: ds, h => by
    have a := h d (by simp)
    have b := shs_dep (ds := ds) fun x hx => h x (List.mem_cons_of_mem _ hx)
    simp only [PyData.depthAll]
    omega

/-! ascending arcs -/
structure AscOk (n : Int) (L : List Arc3) : Prop where
  ok : ∀ p ∈ L, ArcOk n p.1 p.2.1 p.2.2
  nd : L.Nodup
  srt : (L.map arcT).Pairwise fun x y => PySem.W.dataLe false id x y = true
theorem RuleOk.asc {n : Int} {L : List Arc3} (h : RuleOk n L) : AscOk n L := ⟨h.ok, h.nd, h.srt⟩
theorem arcT_nodup {L : List Arc3} (h : L.Nodup) : (L.map arcT).Nodup := List.pairwise_map.mpr (h.imp fun h e => h (arcT_inj e))
theorem toks_arcT {p q : Arc3} (h : PySem.W.keyToks (arcT p) = PySem.W.keyToks (arcT q)) : p = q := arcT_inj (toks_arc h)
theorem arcs_sort_same {n : Int} {L : List Arc3} (h : AscOk n L) {es : List PyData} (hp : es.Perm (L.map arcT)) : es.mergeSort (PySem.W.dataLe false id) = L.map arcT := by
  refine sort_is hp (fun a ha b hb e => ?_) h.srt
  obtain ⟨p, _, rfl⟩ := List.mem_map.mp (hp.mem_iff.mp ha)
  obtain ⟨q, _, rfl⟩ := List.mem_map.mp (hp.mem_iff.mp hb)
  rw [toks_arcT e]
/-- the members of the set of the arcs, sorted -/
theorem set_sorted {n : Int} {L : List Arc3} (h : AscOk n L) {es : List PyData} (n1 : (es.map kd).Nodup) (n2 : ∀ e ∈ es, e ∈ L.map arcT) (n3 : ∀ d ∈ L.map arcT, kd d ∈ es.map kd) : es.mergeSort (PySem.W.dataLe false id) = L.map arcT := by
  have nde : es.Nodup := (List.pairwise_map.mp n1).imp fun h e => h (by rw [e])
  refine arcs_sort_same h ((List.perm_ext_iff_of_nodup nde (arcT_nodup h.nd)).mpr fun d => ⟨n2 d, fun hd => ?_⟩)
  obtain ⟨e, he, ek⟩ := List.mem_map.mp (n3 d hd)
  obtain ⟨p, _, rfl⟩ := List.mem_map.mp (n2 e he)
  obtain ⟨q, _, rfl⟩ := List.mem_map.mp hd
  rw [← arc_kd ek]
  exact he
theorem arcsN_small : ∀ k : Fin 9, (arcsN (k.val : Int)).length ≤ 250 := by decide +kernel
theorem arcs_few {n : Int} {L : List Arc3} (nd : L.Nodup) (ok : ∀ p ∈ L, ArcOk n p.1 p.2.1 p.2.2) (h0 : 0 ≤ n) (h8 : n ≤ 8) : L.length ≤ 250 := by
  have h1 := nodup_le (m := arcsN n) nd fun p hp => (arcsN_mem h0).mpr (ok p hp)
  have h2 := arcsN_small ⟨n.toNat, by omega⟩
  rw [show ((n.toNat : Nat) : Int) = n by omega] at h2
  omega
theorem canLay_arcs4 (L : List Arc3) : PyData.canLayAll0 (L.map arcT) = true := canLay_all fun d hd => by
  obtain ⟨p, _, rfl⟩ := List.mem_map.mp hd
  simp [arcT, arcD, PyData.canLay0, PyData.canLayAll0, canLay_ints]
theorem depth_arcs (L : List Arc3) : PyData.depthAll (L.map arcT) ≤ 2 := shs_dep fun d hd => by
  obtain ⟨p, _, rfl⟩ := List.mem_map.mp hd
  simp [arcT, arcD, PyData.depth, PyData.depthAll, depth_intsD]
theorem shaped_arcsL (L : List Arc3) : SeqAt.shaped (.list (L.map arcT)) = true := by
  have h := depth_arcs L
  unfold SeqAt.shaped
  rw [Bool.and_eq_true, decide_eq_true_iff]
  exact ⟨by simpa only [PyData.canLay0] using canLay_arcs4 L, by simp only [PyData.depth]; omega⟩
theorem eqv_same {d : PyData} (h : SeqAt.shaped d = true) : PyData.eqv d d = true := by
  unfold SeqAt.shaped at h
  rw [Bool.and_eq_true] at h
  exact SeqAt.eqv_refl d h.1

def C_are_ascending_arcs : Con := fun _ es P => ∃ (n : Int) (L : List Arc3), es = [.dat (.int n), .dat (.tuple (L.map arcT))] ∧ AscOk n L ∧ n ≤ 60 ∧ L.length < 1000 ∧ P (.dat (.bool true))
theorem ok_are_ascending_arcs (T : Tx K mg) : FnOk P w K mg base CX0 6 T.f_are_ascending_arcs T.d_are_ascending_arcs ["n", "thing"] (SpC K C_are_ascending_arcs) := by
  refine kfn T.F_are_ascending_arcs sc_are_ascending_arcs (fun W es P ⟨_, _, h, _⟩ => by rw [h]; rfl) fun cdv A outer s H E hr => ⟨_, (pss_one (ps_ret (pe_and (pe_call (ok_are_arcs T) hr (by rfl) T.g_are_arcs T.F_are_arcs.kp T.b_are_arcs .nil pass0 (pa_cons (pv 0) (pa_cons (pv 1) pa_nil))) (pe_one (pe_cmpR (op_eqK (K := K) rfl hr.units) (pe_callTy (cr_lstK (K := K) rfl) (by rfl) T.m_list (by decide +kernel) (pa_cons (pv 1) pa_nil)) (pe_callB (cr_sortedZ (K := K) (w := w) rfl rfl rfl hr.units) (by rfl) T.m_sorted (by decide +kernel) (pa_cons (pe_callTy (cr_setX (K := K) (w := w) rfl rfl rfl hr.units) (by rfl) T.m_set (by decide +kernel) (pa_cons (pv 1) pa_nil)) pa_nil)) (nomark _)))))), fun W es P hC => ?_⟩
  obtain ⟨n, L, rfl, hL, hn, hz, q⟩ := hC
  try dsimp only [cx_K, cx_w]
  walk_at "ka"
  refine ⟨n, L, rfl, hL.ok, hn, by omega, ⟨_, rfl, fun _ => ?_, nofun⟩⟩
  walk_at "ka"
  refine cal_setT (ds := L.map arcT) (fun d hd => ?_) ?_ ?_
  · obtain ⟨p, _, rfl⟩ := List.mem_map.mp hd
    exact arc_key
  · rw [List.length_map]
    omega
  walk_at "ka"
  have hA := arcT_arcs L
  refine cal_sortedZK (by rw [List.length_map]; omega) hA.alike hA.sortable hA.dep fun es n1 n2 n3 => ?_
  rw [set_sorted hL n1 n2 n3]
  walk_at "ka"
  refine opd_eq (shaped_arcsL L) (shaped_arcsL L) ⟨Wd.Le.refl W, ?_⟩
  rw [eqv_same (shaped_arcsL L)]
  exact q

def C_shortened : Con := fun _ es P => ∃ (n : Int) (p : Arc3), es = [.dat (arcT p)] ∧ ArcOk n p.1 p.2.1 p.2.2 ∧ n ≤ 60 ∧ P (.dat (.list ((short3 p).map arcT)))
theorem ok_shortened (T : Tx K mg) : FnOk P w K mg base CX0 2 T.f_shortened T.d_shortened ["arc"] (SpC K C_shortened) := by
  refine kfn T.F_shortened sc_shortened (fun W es P ⟨_, _, h, _⟩ => by rw [h]; rfl) fun cdv A outer s H E hr => ⟨_, (pss_cons (ps_asg (pv 0) (pg_tupK (K := K) rfl (pg_tup (n := 3) rfl (pgs_cons (pg_name (i := 1) sc_shortened.nd rfl (by first | exact Or.inl rfl | exact Or.inr rfl)) (pgs_cons (pg_name (i := 2) sc_shortened.nd rfl (by first | exact Or.inl rfl | exact Or.inr rfl)) (pgs_cons (pg_name (i := 3) sc_shortened.nd rfl (by first | exact Or.inl rfl | exact Or.inr rfl)) pgs_nil))))))
      (pss_cons (ps_if (pt_cmpR (op_eqK (K := K) rfl hr.units) (pe_op op_sub (pv 2) (pv 1)) pe_int (nomark _)) (pss_one (ps_ret (pe_lst pa_nil))) pss_nil)
      (pss_one (ps_ret (pe_lst (pa_cons (pe_call (ok_narrowed T) hr (by rfl) T.g_narrowed T.F_narrowed.kp T.b_narrowed .nil pass0 (pa_cons (pv 0) (pa_cons (pv 1) (pa_cons (pe_op op_sub (pv 2) pe_int) pa_nil)))) (pa_cons (pe_call (ok_narrowed T) hr (by rfl) T.g_narrowed T.F_narrowed.kp T.b_narrowed .nil pass0 (pa_cons (pv 0) (pa_cons (pe_op (op_addK (K := K) rfl) (pv 1) pe_int) (pa_cons (pv 2) pa_nil)))) pa_nil))))))), fun W es P hC => ?_⟩
  obtain ⟨n, ⟨a, b, S⟩, rfl, ho, hn, q⟩ := hC
  have h1 : 1 ≤ a := ho.lo
  have h2 : a < b := ho.lt
  have h3 : b ≤ n := ho.hi
  have h4 : S.length ≤ (b - a - 1).toNat := ho.len
  try dsimp only [cx_K, cx_w]
  unfold short3 at q
  dsimp only at q
  unfold arcT arcD
  dsimp only
  walk_at "ka"
  refine ⟨_, _, tg_tup3, ?_⟩
  refine ds_seq ?_
  walk_at "ka"
  refine opd_eq (by rfl) (by rfl) ?_
  rw [eqv_int]
  refine ⟨_, rfl, fun e => ?_, fun e => ?_⟩
  · walk_at "ka"
    rw [if_pos (of_decide_eq_true e)] at q
    exact ⟨Wd.Le.refl W, q⟩
  · rw [if_neg (of_decide_eq_false e)] at q
    refine ds_next ?_
    walk_at "ka"
    refine ⟨a, b, S, a, b - 1, rfl, by omega, ?_⟩
    walk_at "ka"
    refine ⟨a, b, S, a + 1, b, rfl, by omega, ?_⟩
    walk_at "ka"
    exact ⟨Wd.Le.refl W, q⟩

/-- the pairs that are lacking -/
def lackL (L : List Arc3) : List PyData := L.flatMap fun p => ((short3 p).filter fun o => !decide (o ∈ L)).map fun o => PyData.tuple [arcT p, arcT o]
theorem lackL_nil {L : List Arc3} : lackL L = [] ↔ ∀ p ∈ L, ∀ q ∈ short3 p, q ∈ L := by
  unfold lackL
  rw [List.flatMap_eq_nil_iff]
  refine ⟨fun h p hp q hq => ?_, fun h p hp => ?_⟩
  · have := List.map_eq_nil_iff.mp (h p hp)
    rw [List.filter_eq_nil_iff] at this
    have := this q hq
    simpa using this
  · rw [List.map_eq_nil_iff, List.filter_eq_nil_iff]
    intro q hq
    simpa using h p hp q hq
def C_lacking_pairs : Con := fun _ es P => ∃ (n : Int) (L : List Arc3), es = [.dat (.tuple (L.map arcT))] ∧ AscOk n L ∧ n ≤ 60 ∧ L.length < 1000 ∧ P (.dat (.list (lackL L)))
theorem ok_lacking_pairs (T : Tx K mg) : FnOk P w K mg base CX0 3 T.f_lacking_pairs T.d_lacking_pairs ["arcs"] (SpC K C_lacking_pairs) := by
  refine kfn T.F_lacking_pairs sc_lacking_pairs (fun W es P ⟨_, _, h, _⟩ => by rw [h]; rfl) fun cdv A outer s H E hr => ⟨_, (pss_cons (ps_set (i := 1) sc_lacking_pairs.nd rfl (by first | exact Or.inl rfl | exact Or.inr rfl) (pe_callTy (cr_setX (K := K) (w := w) rfl rfl rfl hr.units) (by rfl) T.m_set (by decide +kernel) (pa_cons (pv 0) pa_nil)))
      (pss_one (ps_ret (pe_lc2 (own := [("one", 2), ("other", 3)]) (vs1 := [3]) rfl sc_lacking_pairs.nd (pi_seqK (K := K) rfl (pv 0)) (blkOk_by (N := N_lacking_pairs) (sc := defScope s_lacking_pairs) (by decide +kernel)) (by decide) (fun _ _ _ _ _ => (pg_name (i := 2) sc_lacking_pairs.nd rfl (by first | exact Or.inl rfl | exact Or.inr rfl))) (fun _ _ _ _ _ => pts_nil) (fun _ _ _ _ _ => (pi_seqK (K := K) rfl (pe_call (ok_shortened T) hr (by rfl) T.g_shortened T.F_shortened.kp T.b_shortened .nil pass0 (pa_cons (pv 2) pa_nil)))) (fun _ _ _ _ _ => (pg_name (i := 3) sc_lacking_pairs.nd rfl (by first | exact Or.inl rfl | exact Or.inr rfl))) (fun _ _ _ _ _ => (pts_one (pt_cmpR (op_notInZ (P := P) (w := w) (K := K) rfl rfl rfl (hu65 hr)) (pv 3) (pv 1) (by rfl)))) (fun _ _ _ _ _ => (pe_tup (pa_cons (pv 2) (pa_cons (pv 3) pa_nil)))))))), fun W es P hC => ?_⟩
  obtain ⟨n, L, rfl, hL, hn, hz, q⟩ := hC
  try dsimp only [cx_K, cx_w]
  walk_at "ka"
  refine cal_setT (fun d hd => ?_) (by rw [List.length_map]; omega) ?_
  · obtain ⟨p, _, rfl⟩ := List.mem_map.mp hd
    exact arc_key
  walk_at "ka"
  refine de_lc2M L (fun p => DV.dat (arcT p)) (fun _ => true) short3 (fun _ o => DV.dat (arcT o)) (fun p o => !decide (o ∈ L)) (fun p o => .tuple [arcT p, arcT o]) 2 (di_seqT ?_) (by omega) ?_ ?_ ?_
  · walk_at "ka"
    exact List.map_map ..
  · intro p hp
    unfold short3
    by_cases e : p.2.1 - p.1 = 1
    · rw [if_pos e]
      exact Nat.zero_le _
    · rw [if_neg e]
      exact Nat.le_refl _
  · intro p hp W' hW
    refine ⟨_, _, tg_name, by simp, ?_⟩
    walk_at "ka"
    refine ⟨rfl, fun _ => ⟨di_seqL ?_, fun o ho W'' hW2 => ?_⟩⟩
    · walk_at "ka"
      exact ⟨n, p, rfl, hL.ok p hp, hn, _, rfl, List.map_map ..⟩
    · refine ⟨_, _, tg_name, by simp, ?_⟩
      walk_at "ka"
      have e : decide (kd (arcT o) ∈ (L.map arcT).map kd) = decide (o ∈ L) := by
        rw [decide_eq_decide, List.map_map, List.mem_map]
        exact ⟨fun ⟨q, hq, e⟩ => by rw [← arc_kd e]; exact hq, fun h => ⟨o, h, rfl⟩⟩
      refine opd_niZS arc_key ?_
      rw [e]
      refine ⟨_, rfl, rfl, fun _ => ?_⟩
      walk_at "ka"
      rfl
  · rw [List.filter_eq_self.mpr (fun _ _ => rfl)]
    exact ⟨Wd.Le.refl W, q⟩

def C_is_rule : Con := fun _ es P => ∃ (n : Int) (L : List Arc3), es = [.dat (.int n), .dat (.tuple (L.map arcT))] ∧ AscOk n L ∧ n ≤ 60 ∧ L.length < 1000 ∧ ∀ b : Bool, (b = true ↔ ∀ p ∈ L, ∀ q ∈ short3 p, q ∈ L) → P (.dat (.bool b))
theorem is_rule_yes {W : Wd} {n : Int} {L : List Arc3} (h : RuleOk n L) (hn : n ≤ 60) (hz : L.length < 1000) {P : DV → Prop} (q : P (.dat (.bool true))) : C_is_rule W [.dat (.int n), .dat (.tuple (L.map arcT))] P := ⟨n, L, rfl, h.asc, hn, hz, fun b hb => by rw [hb.mpr h.closed]; exact q⟩
theorem ok_is_rule (T : Tx K mg) : FnOk P w K mg base CX0 7 T.f_is_rule T.d_is_rule ["n", "thing"] (SpC K C_is_rule) := by
  refine kfn T.F_is_rule sc_is_rule (fun W es P ⟨_, _, h, _⟩ => by rw [h]; rfl) fun cdv A outer s H E hr => ⟨_, (pss_one (ps_ret (pe_and (pe_call (ok_are_ascending_arcs T) hr (by rfl) T.g_are_ascending_arcs T.F_are_ascending_arcs.kp T.b_are_ascending_arcs .nil pass0 (pa_cons (pv 0) (pa_cons (pv 1) pa_nil))) (pe_one (pe_cmpR (op_eqK (K := K) rfl hr.units) (pe_callB (cr_lenK (K := K) rfl) (by rfl) T.m_len (by decide +kernel) (pa_cons (pe_call (ok_lacking_pairs T) (hr.mono (by decide)) (by rfl) T.g_lacking_pairs T.F_lacking_pairs.kp T.b_lacking_pairs .nil pass0 (pa_cons (pv 1) pa_nil)) pa_nil)) pe_int (nomark _)))))), fun W es P hC => ?_⟩
  obtain ⟨n, L, rfl, hL, hn, hz, q⟩ := hC
  try dsimp only [cx_K, cx_w]
  walk_at "ka"
  refine ⟨n, L, rfl, hL, hn, hz, ⟨_, rfl, fun _ => ?_, nofun⟩⟩
  walk_at "ka"
  refine ⟨n, L, rfl, hL, hn, hz, ?_⟩
  walk_at "ka"
  refine opd_eq (by rfl) (by rfl) ⟨Wd.Le.refl W, q _ ?_⟩
  rw [eqv_int, decide_eq_true_iff, ← lackL_nil]
  exact ⟨fun e => List.length_eq_zero_iff.mp (by omega), fun e => by rw [e]; rfl⟩

def C_check_rule : Con := fun _ es P => ∃ (n : Int) (L : List Arc3), es = [.dat (.int n), .dat (.tuple (L.map arcT))] ∧ RuleOk n L ∧ n ≤ 60 ∧ L.length < 1000 ∧ P (.dat .none)
theorem ok_check_rule (T : Tx K mg) : FnOk P w K mg base CX0 8 T.f_check_rule T.d_check_rule ["n", "rule"] (SpC K C_check_rule) := by
  refine kfn T.F_check_rule sc_check_rule (fun W es P ⟨_, _, h, _⟩ => by rw [h]; rfl) fun cdv A outer s H E hr => ⟨_, (pss_one (ps_if (pt_not (pt_val (pe_call (ok_is_rule T) hr (by rfl) T.g_is_rule T.F_is_rule.kp T.b_is_rule .nil pass0 (pa_cons (pv 0) (pa_cons (pv 1) pa_nil))))) (pss_one ps_never) pss_nil)), fun W es P hC => ?_⟩
  obtain ⟨n, L, rfl, hL, hn, hz, q⟩ := hC
  try dsimp only [cx_K, cx_w]
  walk_at "ka"
  refine is_rule_yes hL hn hz ?_
  exact ⟨_, rfl, nofun, fun _ => ds_next ⟨Wd.Le.refl W, q⟩⟩

def fallsL (r : List Int) (f : Bool) : List Nat := (List.range (r.length - 1)).filter fun i => isFall r i == f
/-- the arc at i, told apart -/
def recT (r : List Int) (i : Nat) : Arc3 := (lowAt r i, highAt r i, aheadAt r i)
/-- the blind falls, or rises, of a row -/
def blindL (c : Arc3 → Bool) (f : Bool) (r : List Int) : List Nat := (fallsL r f).filter fun i => !c (recT r i)
/-- the way down: at the first blind fall, again and again -/
def wayL (c : Arc3 → Bool) : Nat → List Int → List Nat
  | 0, _ => []
  | k + 1, r => match blindL c true r with
    | [] => []
    | i :: _ => i :: wayL c k (exch r i)
def goAlong (r : List Int) (w : List Nat) : List Int := w.foldl exch r
theorem goAlong_cons (r : List Int) (i : Nat) (w : List Nat) : goAlong r (i :: w) = goAlong (exch r i) w := rfl
theorem goAlong_snoc (r : List Int) (w : List Nat) (i : Nat) : goAlong r (w ++ [i]) = exch (goAlong r w) i := by
  unfold goAlong
  rw [List.foldl_append]
  rfl
theorem wayL_stop {c : Arc3 → Bool} : ∀ {k : Nat} {r : List Int}, blindL c true (goAlong r (wayL c k r)) = [] → ∀ m, k ≤ m → wayL c m r = wayL c k r
  | 0, r, h, m, _ => by
    have h : blindL c true r = [] := h
    cases m with
    | zero => rfl
    | succ m => simp only [wayL, h]
  | k + 1, r, h, m, hm => by
    cases m with
    | zero => omega
    | succ m =>
      cases hb : blindL c true r with
      | nil => simp only [wayL, hb]
      | cons i t =>
        simp only [wayL, hb] at h ⊢
        rw [wayL_stop (k := k) (r := exch r i) h m (by omega)]
theorem wayL_next {c : Arc3 → Bool} : ∀ {k : Nat} {r : List Int} {i : Nat} {t : List Nat}, blindL c true (goAlong r (wayL c k r)) = i :: t → wayL c (k + 1) r = wayL c k r ++ [i]
  | 0, r, i, t, h => by
    have h : blindL c true r = i :: t := h
    simp only [wayL, h]
    rfl
  | k + 1, r, i, t, h => by
    cases hb : blindL c true r with
    | nil =>
      simp only [wayL, hb] at h
      rw [show goAlong r [] = r from rfl, hb] at h
      cases h
    | cons j u =>
      have e : wayL c (k + 1) r = j :: wayL c k (exch r j) := by simp only [wayL, hb]
      rw [e, goAlong_cons] at h
      have := wayL_next (k := k) (r := exch r j) h
      have e2 : wayL c (k + 1 + 1) r = j :: wayL c (k + 1) (exch r j) := by rw [wayL]; simp only [hb]
      rw [e2, this, e]
      rfl
theorem blindL_lt {c : Arc3 → Bool} {f : Bool} {r : List Int} {i : Nat} (h : i ∈ blindL c f r) : i + 1 < r.length ∧ isFall r i = f ∧ c (recT r i) = false := by
  obtain ⟨h1, h2⟩ := List.mem_filter.mp h
  obtain ⟨h3, h4⟩ := List.mem_filter.mp h1
  rw [List.mem_range] at h3
  exact ⟨by omega, by simpa using h4, by simpa using h2⟩
theorem wayL_rows {n : Int} {c : Arc3 → Bool} : ∀ {k : Nat} {r : List Int}, RowOk n r → RowOk n (goAlong r (wayL c k r))
  | 0, r, h => h
  | k + 1, r, h => by
    cases hb : blindL c true r with
    | nil =>
      simp only [wayL, hb]
      exact h
    | cons i t =>
      simp only [wayL, hb]
      rw [goAlong_cons]
      have h1 := (blindL_lt (c := c) (f := true) (r := r) (i := i) (by rw [hb]; simp)).1
      have h2 := h.len
      exact wayL_rows (h.exch (by omega))
/-- each step is a blind fall -/
def IsWay (c : Arc3 → Bool) : List Int → List Nat → Prop
  | _, [] => True
  | r, i :: w => i + 1 < r.length ∧ isFall r i = true ∧ c (recT r i) = false ∧ IsWay c (exch r i) w
theorem wayL_isWay {c : Arc3 → Bool} : ∀ {k : Nat} {r : List Int}, IsWay c r (wayL c k r)
  | 0, _ => trivial
  | k + 1, r => by
    cases hb : blindL c true r with
    | nil =>
      simp only [wayL, hb]
      trivial
    | cons i t =>
      simp only [wayL, hb]
      obtain ⟨h1, h2, h3⟩ := blindL_lt (c := c) (f := true) (r := r) (i := i) (by rw [hb]; simp)
      exact ⟨h1, h2, h3, wayL_isWay⟩

/-- the rows of a way -/
def rowsL : List Int → List Nat → List (List Int)
  | r, [] => [r]
  | r, i :: w => r :: rowsL (exch r i) w
theorem rowsL_snoc : ∀ (r : List Int) (w : List Nat) (i : Nat), rowsL r (w ++ [i]) = rowsL r w ++ [goAlong r (w ++ [i])]
  | _, [], _ => rfl
  | r, j :: w, i => by
    show r :: rowsL (exch r j) (w ++ [i]) = (r :: rowsL (exch r j) w) ++ [goAlong (exch r j) (w ++ [i])]
    rw [rowsL_snoc (exch r j) w i]
    rfl
theorem rowsL_len : ∀ (r : List Int) (w : List Nat), (rowsL r w).length = w.length + 1
  | _, [] => rfl
  | r, i :: w => by
    show (rowsL (exch r i) w).length + 1 = w.length + 1 + 1
    rw [rowsL_len]
theorem rowsL_last (r : List Int) (w : List Nat) : (rowsL r w)[w.length]? = some (goAlong r w) := by
  rcases List.eq_nil_or_concat w with rfl | ⟨t, i, rfl⟩
  · rfl
  · rw [List.concat_eq_append, rowsL_snoc, List.getElem?_append_right (by rw [rowsL_len, List.length_append]; simp), rowsL_len, List.length_append]
    simp
theorem steps_rows {n : Int} : ∀ {w : List Nat} {r : List Int}, RowOk n r → (∀ i ∈ w, (i : Int) ≤ n - 2) → RowOk n (goAlong r w)
  | [], _, h, _ => h
  | i :: w, r, h, hw => by
    show RowOk n (goAlong (exch r i) w)
    exact steps_rows (h.exch (hw i (by simp))) fun j hj => hw j (by simp [hj])
def natsD (w : List Nat) : List PyData := intsD (w.map fun i : Nat => (i : Int))
def C_rows_along : Con := fun _ es P => ∃ (n : Int) (r : List Int) (w : List Nat), es = [.dat (.int n), .dat (.tuple (intsD r)), .dat (.tuple (natsD w))] ∧ RowOk n r ∧ (∀ i ∈ w, (i : Int) ≤ n - 2) ∧ w.length ≤ 4000 ∧ P (.dat (.list ((rowsL r w).map fun s => PyData.tuple (intsD s))))
theorem ok_rows_along (T : Tx K mg) : FnOk P w K mg base CX0 6 T.f_rows_along T.d_rows_along ["n", "row", "steps"] (SpC K C_rows_along) := by
  refine kfn T.F_rows_along sc_rows_along (fun W es P ⟨_, _, _, h, _⟩ => by rw [h]; rfl) fun cdv A outer s H E hr => ⟨_, (pss_cons (ps_set (i := 3) sc_rows_along.nd rfl (by first | exact Or.inl rfl | exact Or.inr rfl) (pe_lst (pa_cons (pv 1) pa_nil)))
      (pss_cons (ps_for PassesOwn.never rfl (pi_seqK (K := K) rfl (pv 2)) (pg_name (i := 4) sc_rows_along.nd rfl (by first | exact Or.inl rfl | exact Or.inr rfl)) (pss_cons (ps_set (i := 1) sc_rows_along.nd rfl (by first | exact Or.inl rfl | exact Or.inr rfl) (pe_call (ok_exchanged T) hr (by rfl) T.g_exchanged T.F_exchanged.kp T.b_exchanged .nil pass0 (pa_cons (pv 0) (pa_cons (pv 1) (pa_cons (pv 4) pa_nil)))))
      (pss_one (ps_expr (pe_bm PySem.F.plainAttrs_list PySem.F.slot_list_append PySem.F.type_list_append mt_append (pv 3) (pa_cons (pv 1) pa_nil))))))
      (pss_one (ps_ret (pv 3))))), fun W es P hC => ?_⟩
  obtain ⟨n, r, wy, rfl, ho, hw, hz, q⟩ := hC
  try dsimp only [cx_K, cx_w]
  refine ds_seq (ds_setN (dn_lst ?_))
  walk_at "ka"
  refine fun p hp => ?_
  refine ds_seq (ds_for ?_)
  refine di_seqT ?_
  walk_at "ka"
  refine ⟨fun k W' Δ' => W' = W.hide p (knL K ((rowsL r (wy.take k)).map fun s => PyData.tuple (intsD s))) ∧ ∃ x, Δ' = [some (.dat (.int n)), some (.dat (.tuple (intsD (goAlong r (wy.take k))))), some (.dat (.tuple (natsD wy))), some (.raw (.ref p)), x], ⟨rfl, none, rfl⟩, ?_, ?_⟩
  · rintro k e W' Δ' he ⟨rfl, x, rfl⟩
    obtain ⟨z, hz2, rfl⟩ := ints_at2 he
    rw [List.getElem?_map] at hz2
    obtain ⟨i, hi, rfl⟩ := Option.map_eq_some_iff.mp hz2
    have hrow : RowOk n (goAlong r (wy.take k)) := steps_rows ho fun j hj => hw j (List.mem_of_mem_take hj)
    have hsn : wy.take (k + 1) = wy.take k ++ [i] := by
      rw [List.take_add_one, hi]
      rfl
    refine ⟨_, _, tg_name, ?_⟩
    walk_at "ka"
    refine ⟨n, _, i, rfl, hrow, hw i (List.mem_of_getElem? hi), ?_⟩
    refine ds_app (i := 3) rfl (by rw [List.length_map, rowsL_len]; have : (wy.take k).length ≤ wy.length := (by rw [List.length_take]; omega); omega) ?_
    walk_at "ka"
    refine ⟨?_, some (.dat (.int (i : Int))), ?_⟩
    · rw [hsn, rowsL_snoc, List.map_append, goAlong_snoc]
      rfl
    · rw [hsn, goAlong_snoc]
      rfl
  · rintro W' Δ' ⟨rfl, x, rfl⟩
    rw [List.length_map, show (natsD wy).length = wy.length by unfold natsD; rw [intsD_len, List.length_map], List.take_length]
    refine ds_see (i := 3) hp rfl ?_
    walk_at "ka"
    exact ⟨Wd.Le.refl W, q⟩

def C_check_rule_and_rows : Con := fun _ es P => ∃ (n : Int) (L : List Arc3) (rows : List (List Int)), es = [.dat (.int n), .dat (.tuple (L.map arcT)), .dat (.tuple (rows.map fun r => PyData.tuple (intsD r)))] ∧ RuleOk n L ∧ n ≤ 60 ∧ L.length < 1000 ∧ (∀ r ∈ rows, RowOk n r) ∧ P (.dat .none)
theorem ok_check_rule_and_rows (T : Tx K mg) : FnOk P w K mg base CX0 9 T.f_check_rule_and_rows T.d_check_rule_and_rows ["n", "rule", "rows"] (SpC K C_check_rule_and_rows) := by
  refine kfn T.F_check_rule_and_rows sc_check_rule_and_rows (fun W es P ⟨_, _, _, h, _⟩ => by rw [h]; rfl) fun cdv A outer s H E hr => ⟨_, (pss_cons (ps_expr (pe_call (ok_check_rule T) hr (by rfl) T.g_check_rule T.F_check_rule.kp T.b_check_rule .nil pass0 (pa_cons (pv 0) (pa_cons (pv 1) pa_nil))))
      (pss_one (ps_for PassesOwn.never rfl (pi_seqK (K := K) rfl (pv 2)) (pg_name (i := 3) sc_check_rule_and_rows.nd rfl (by first | exact Or.inl rfl | exact Or.inr rfl)) (pss_one (ps_expr (pe_call (ok_check_row T) (hr.mono (by decide)) (by rfl) T.g_check_row T.F_check_row.kp T.b_check_row .nil pass0 (pa_cons (pv 0) (pa_cons (pv 3) pa_nil)))))))), fun W es P hC => ?_⟩
  obtain ⟨n, L, rows, rfl, hL, hn, hz, hr, q⟩ := hC
  try dsimp only [cx_K, cx_w]
  walk_at "ka"
  refine ⟨n, L, rfl, hL, hn, hz, ?_⟩
  refine ds_for ?_
  refine di_seqT ?_
  walk_at "ka"
  refine ⟨fun i W' Δ' => W' = W ∧ ∃ x, Δ' = [some (.dat (.int n)), some (.dat (.tuple (L.map arcT))), some (.dat (.tuple (rows.map fun r => PyData.tuple (intsD r)))), x], ⟨rfl, none, rfl⟩, ?_, ?_⟩
  · rintro i e W' Δ' he ⟨rfl, x, rfl⟩
    rw [List.map_map, List.getElem?_map] at he
    obtain ⟨r, hri, rfl⟩ := Option.map_eq_some_iff.mp he
    refine ⟨_, _, tg_name, ?_⟩
    walk_at "ka"
    exact ⟨n, r, rfl, hr r (List.mem_of_getElem? hri), rfl, _, rfl⟩
  · rintro W' Δ' ⟨rfl, x, rfl⟩
    exact ⟨Wd.Le.refl _, q⟩

theorem eqv_arc3 (p q : Arc3) : PyData.eqv (arcT p) (arcT q) = decide (p = q) := by
  unfold arcT
  rw [eqv_arcs, ← Bool.decide_and, ← Bool.decide_and]
  exact decide_eq_decide.mpr ⟨fun ⟨a, b, c⟩ => Prod.ext a (Prod.ext b c), fun h => by rw [h]; exact ⟨rfl, rfl, rfl⟩⟩
theorem any_arc (L : List Arc3) (p : Arc3) : ((L.map arcT).any fun z => PyData.eqv z (arcT p)) = decide (p ∈ L) := by
  rw [Bool.eq_iff_iff, List.any_eq_true, decide_eq_true_iff]
  constructor
  · rintro ⟨x, hx, e⟩
    obtain ⟨q, hq, rfl⟩ := List.mem_map.mp hx
    rw [eqv_arc3, decide_eq_true_iff] at e
    rw [← e]
    exact hq
  · exact fun h => ⟨_, List.mem_map.mpr ⟨p, h, rfl⟩, by rw [eqv_arc3]; exact decide_eq_true rfl⟩
theorem canLay_arcsL {ds : List PyData} (h : ArcL ds) : PyData.canLayAll0 ds = true := canLay_all fun d hd => by
  obtain ⟨a, b, S, rfl⟩ := h d hd
  simp [arcD, PyData.canLay0, PyData.canLayAll0, canLay_ints]
theorem canLay_arcs3 (L : List Arc3) : PyData.canLayAll0 (L.map arcT) = true := canLay_arcsL (arcT_arcs L)
def inL (L : List Arc3) (p : Arc3) : Bool := decide (p ∈ L)
def C_blind_falls : Con := fun _ es P => ∃ (n : Int) (L : List Arc3) (r : List Int), es = [.dat (.int n), .dat (.tuple (L.map arcT)), .dat (.tuple (intsD r))] ∧ RowOk n r ∧ P (.dat (.list ((blindL (inL L) true r).map fun i : Nat => .int i)))
theorem ok_blind_falls (T : Tx K mg) : FnOk P w K mg base CX0 6 T.f_blind_falls T.d_blind_falls ["n", "rule", "row"] (SpC K C_blind_falls) := by
  refine kfn T.F_blind_falls sc_blind_falls (fun W es P ⟨_, _, _, h, _⟩ => by rw [h]; rfl) fun cdv A outer s H E hr => ⟨_, (pss_one (ps_ret (pe_lc (own := [("i", 3)]) rfl sc_blind_falls.nd (pi_range1 rfl T.m_range (pa_cons (pe_op op_sub (pv 0) pe_int) pa_nil)) (blkOk_by (N := N_blind_falls) (sc := defScope s_blind_falls) (by decide +kernel)) (fun _ _ _ _ _ => (pg_name (i := 3) sc_blind_falls.nd rfl (by first | exact Or.inl rfl | exact Or.inr rfl))) (fun _ _ _ _ _ => (pts_one (PW.pt (pw_and (pt_cmpR op_gt (pe_ix (ix_K (K := K) rfl) (pv 2) (pv 3) (fun _ _ => rfl)) (pe_ix (ix_K (K := K) rfl) (pv 2) (pe_op (op_addK (K := K) rfl) (pv 3) pe_int) (fun _ _ => rfl)) (nomark _)) (pw_and1 (pt_cmpR (op_notInZ (P := P) (w := w) (K := K) rfl rfl rfl (hu65 hr)) (pe_call (ok_arc_at T) hr (by rfl) T.g_arc_at T.F_arc_at.kp T.b_arc_at .nil pass0 (pa_cons (pv 0) (pa_cons (pv 2) (pa_cons (pv 3) pa_nil)))) (pv 1) (by rfl))))))) (fun _ _ _ _ _ => (pv 3))))), fun W es P hC => ?_⟩
  obtain ⟨n, L, r, rfl, ho, q⟩ := hC
  have h2 := ho.hi
  have h3 := ho.len
  try dsimp only [cx_K, cx_w]
  walk_at "ka"
  refine de_lcM (List.range (r.length - 1)) (fun i => DV.dat (.int (i : Nat))) (fun i => (isFall r i == true) && !inL L (recT r i)) (fun i => .int (i : Nat)) ?_ (by rw [List.length_range]; omega) ?_ ?_
  · walk_at "ka"
    refine ⟨by omega, ?_⟩
    rw [show (n - 1).toNat = r.length - 1 by omega, rg_range, List.map_map]
    rfl
  · intro i hi W' hW
    rw [List.mem_range] at hi
    refine ⟨_, _, tg_name, by simp, ?_⟩
    walk_at "ka"
    refine opd_ixT (atI_nat (intsD_get (getD_get (by omega)))) ?_
    walk_at "ka"
    rw [show (i : Int) + 1 = ((i + 1 : Nat) : Int) from rfl]
    refine opd_ixT (atI_nat (intsD_get (getD_get (by omega)))) ?_
    walk_at "ka"
    have ef : (isFall r i == true) = decide (r.getD (i + 1) 0 < r.getD i 0) := by unfold isFall; simp
    rw [ef]
    refine ⟨fun e => ?_, fun e => ?_⟩
    · walk_at "ka"
      refine ⟨n, r, i, rfl, ho, by omega, ?_⟩
      walk_at "ka"
      show OpD _ _ _ (.dat (arcT (recT r i))) _ _
      refine opd_niZT shaped_arc (canLay_arcs3 L) ?_
      rw [any_arc]
      refine ⟨_, rfl, ?_, fun _ => ?_⟩
      · rw [e]
        rfl
      · walk_at "ka"
        rfl
    · refine ⟨?_, fun e2 => ?_⟩
      · rw [e]
        rfl
      · rw [e] at e2
        cases e2
  · refine ⟨Wd.Le.refl W, ?_⟩
    have e : ((List.range (r.length - 1)).filter fun i => (isFall r i == true) && !inL L (recT r i)) = blindL (inL L) true r := by
      unfold blindL fallsL
      rw [List.filter_filter]
      refine List.filter_congr fun i _ => Bool.and_comm _ _
    rw [e]
    exact q

theorem falls_f {r : List Int} {i : Nat} : (isFall r i == false) = !decide (r.getD (i + 1) 0 < r.getD i 0) := by unfold isFall; simp
def C_blind_rises : Con := fun _ es P => ∃ (n : Int) (L : List Arc3) (r : List Int), es = [.dat (.int n), .dat (.tuple (L.map arcT)), .dat (.tuple (intsD r))] ∧ RowOk n r ∧ P (.dat (.list ((blindL (inL L) false r).map fun i : Nat => .int i)))
theorem ok_blind_rises (T : Tx K mg) : FnOk P w K mg base CX0 6 T.f_blind_rises T.d_blind_rises ["n", "rule", "row"] (SpC K C_blind_rises) := by
  refine kfn T.F_blind_rises sc_blind_rises (fun W es P ⟨_, _, _, h, _⟩ => by rw [h]; rfl) fun cdv A outer s H E hr => ⟨_, (pss_one (ps_ret (pe_lc (own := [("i", 3)]) rfl sc_blind_rises.nd (pi_range1 rfl T.m_range (pa_cons (pe_op op_sub (pv 0) pe_int) pa_nil)) (blkOk_by (N := N_blind_rises) (sc := defScope s_blind_rises) (by decide +kernel)) (fun _ _ _ _ _ => (pg_name (i := 3) sc_blind_rises.nd rfl (by first | exact Or.inl rfl | exact Or.inr rfl))) (fun _ _ _ _ _ => (pts_one (PW.pt (pw_and (pt_cmpR op_lt (pe_ix (ix_K (K := K) rfl) (pv 2) (pv 3) (fun _ _ => rfl)) (pe_ix (ix_K (K := K) rfl) (pv 2) (pe_op (op_addK (K := K) rfl) (pv 3) pe_int) (fun _ _ => rfl)) (nomark _)) (pw_and1 (pt_cmpR (op_notInZ (P := P) (w := w) (K := K) rfl rfl rfl (hu65 hr)) (pe_call (ok_arc_at T) hr (by rfl) T.g_arc_at T.F_arc_at.kp T.b_arc_at .nil pass0 (pa_cons (pv 0) (pa_cons (pv 2) (pa_cons (pv 3) pa_nil)))) (pv 1) (by rfl))))))) (fun _ _ _ _ _ => (pv 3))))), fun W es P hC => ?_⟩
  obtain ⟨n, L, r, rfl, ho, q⟩ := hC
  have h2 := ho.hi
  have h3 := ho.len
  try dsimp only [cx_K, cx_w]
  walk_at "ka"
  refine de_lcM (List.range (r.length - 1)) (fun i => DV.dat (.int (i : Nat))) (fun i => (isFall r i == false) && !inL L (recT r i)) (fun i => .int (i : Nat)) ?_ (by rw [List.length_range]; omega) ?_ ?_
  · walk_at "ka"
    refine ⟨by omega, ?_⟩
    rw [show (n - 1).toNat = r.length - 1 by omega, rg_range, List.map_map]
    rfl
  · intro i hi W' hW
    rw [List.mem_range] at hi
    have ne := ho.apart (i := i) (by omega)
    refine ⟨_, _, tg_name, by simp, ?_⟩
    walk_at "ka"
    refine opd_ixT (atI_nat (intsD_get (getD_get (by omega)))) ?_
    walk_at "ka"
    rw [show (i : Int) + 1 = ((i + 1 : Nat) : Int) from rfl]
    refine opd_ixT (atI_nat (intsD_get (getD_get (by omega)))) ?_
    walk_at "ka"
    have ef : (isFall r i == false) = decide (r.getD i 0 < r.getD (i + 1) 0) := by
      rw [falls_f, Bool.eq_iff_iff, Bool.not_eq_true', decide_eq_false_iff_not, decide_eq_true_iff]
      omega
    rw [ef]
    refine ⟨fun e => ?_, fun e => ?_⟩
    · walk_at "ka"
      refine ⟨n, r, i, rfl, ho, by omega, ?_⟩
      walk_at "ka"
      show OpD _ _ _ (.dat (arcT (recT r i))) _ _
      refine opd_niZT shaped_arc (canLay_arcs3 L) ?_
      rw [any_arc]
      refine ⟨_, rfl, ?_, fun _ => ?_⟩
      · rw [e]
        rfl
      · walk_at "ka"
        rfl
    · refine ⟨?_, fun e2 => ?_⟩
      · rw [e]
        rfl
      · rw [e] at e2
        cases e2
  · refine ⟨Wd.Le.refl W, ?_⟩
    have e : ((List.range (r.length - 1)).filter fun i => (isFall r i == false) && !inL L (recT r i)) = blindL (inL L) false r := by
      unfold blindL fallsL
      rw [List.filter_filter]
      refine List.filter_congr fun i _ => Bool.and_comm _ _
    rw [e]
    exact q

open Classical in
noncomputable def turB (r : List Int) (a b : Int) : Bool := decide (tur r a b)
open Classical in
theorem turB_iff {r : List Int} {a b : Int} : turB r a b = true ↔ tur r a b := by
  unfold turB
  exact decide_eq_true_iff
noncomputable def lawTurA (n : Int) (r : List Int) (a : Int) : List PyData := ((rgN (a + 1) (n - a).toNat).filter fun b => turB r a b).map fun b => pairD a b
noncomputable def lawTurI (n : Int) (r : List Int) (i : Nat) : List PyData := (rgN 1 i).flatMap fun a => lawTurA n r a
noncomputable def lawTur (n : Int) (r : List Int) : List PyData := lawTurI n r (n - 1).toNat
theorem lawTur_mem {n : Int} {r : List Int} (hr : RowOk n r) {a b : Int} : pairD a b ∈ lawTur n r ↔ tur r a b := by
  unfold lawTur lawTurI lawTurA
  rw [List.mem_flatMap]
  constructor
  · rintro ⟨x, _, m⟩
    obtain ⟨y, m2, e⟩ := List.mem_map.mp m
    simp only [pairD, PyData.tuple.injEq, List.cons.injEq, PyData.int.injEq, and_true] at e
    obtain ⟨rfl, rfl⟩ := e
    exact turB_iff.mp (List.mem_filter.mp m2).2
  · intro h
    obtain ⟨h1, h2, h3⟩ := tur_rg hr h
    exact ⟨a, rgN_mem.mpr (by omega), List.mem_map.mpr ⟨b, List.mem_filter.mpr ⟨rgN_mem.mpr (by omega), turB_iff.mpr h⟩, rfl⟩⟩

/-! pairs, and distances -/
def allI (n : Int) (i : Nat) : List (Int × Int) := (rgN 1 i).flatMap fun a => (rgN (a + 1) (n - a).toNat).map fun b => (a, b)
def allP (n : Int) : List (Int × Int) := allI n (n - 1).toNat
theorem allI_succ {n : Int} {i : Nat} : allI n (i + 1) = allI n i ++ (rgN (1 + (i : Int) + 1) (n - (1 + (i : Int))).toNat).map fun b => (1 + (i : Int), b) := by
  unfold allI
  rw [rgN_succ, List.flatMap_append, List.flatMap_cons, List.flatMap_nil, List.append_nil]
theorem allP_mem {n a b : Int} : (a, b) ∈ allP n ↔ 1 ≤ a ∧ a < b ∧ b ≤ n := by
  unfold allP allI
  rw [List.mem_flatMap]
  constructor
  · rintro ⟨x, hx, m⟩
    obtain ⟨y, hy, e⟩ := List.mem_map.mp m
    cases e
    rw [rgN_mem] at hx hy
    omega
  · rintro ⟨h1, h2, h3⟩
    exact ⟨a, rgN_mem.mpr (by omega), List.mem_map.mpr ⟨b, rgN_mem.mpr (by omega), rfl⟩⟩
theorem allP_nodup {n : Int} : (allP n).Nodup := by
  unfold allP allI
  refine List.pairwise_flatMap.mpr ⟨fun a _ => List.pairwise_map.mpr (rgN_asc.imp fun h e => ?_), rgN_asc.imp fun {x y} h u hu v hv e => ?_⟩
  · have := (Prod.mk.inj e).2
    omega
  · obtain ⟨_, _, rfl⟩ := List.mem_map.mp hu
    obtain ⟨_, _, rfl⟩ := List.mem_map.mp hv
    have := (Prod.mk.inj e).1
    omega
theorem allI_len {n : Int} : ∀ {i : Nat}, (i : Int) ≤ n - 1 → 2 * ((allI n i).length : Int) = i * (2 * n - i - 1)
  | 0, _ => by simp [allI, rgN]
  | i + 1, h => by
    have ih := allI_len (n := n) (i := i) (by omega)
    rw [allI_succ, List.length_append, List.length_map, rgN_length]
    have e : (((n - (1 + (i : Int))).toNat : Nat) : Int) = n - 1 - i := by omega
    push_cast
    rw [Int.mul_add, ih, e]
    have e2 : (i : Int) * (2 * n - i - 1) = 2 * (i * n) - i * i - i := by
      rw [Int.mul_sub, Int.mul_sub, Int.mul_one, Int.mul_left_comm]
    have e3 : ((i : Int) + 1) * (2 * n - (i + 1) - 1) = 2 * (i * n) - i * i - 2 * i + (2 * n - i - 2) := by
      rw [Int.add_mul, Int.one_mul, Int.mul_sub, Int.mul_sub, Int.mul_add, Int.mul_one, Int.mul_left_comm]
      omega
    rw [e2, e3]
    omega
theorem allP_len {n : Int} (h : 1 ≤ n) : 2 * ((allP n).length : Int) = n * (n - 1) := by
  unfold allP
  rw [allI_len (by omega), Int.toNat_of_nonneg (by omega), show 2 * n - (n - 1) - 1 = n by omega, Int.mul_comm]
/-! how many pairs are turned, and ways down -/
noncomputable def inv (n : Int) (r : List Int) : Nat := (allP n).countP fun p => turB r p.1 p.2
theorem countP_less {α : Type} {f g : α → Bool} {x : α} (hf : f x = true) (hg : g x = false) (h : ∀ y, y ≠ x → g y = f y) : ∀ {l : List α}, l.Nodup → x ∈ l → l.countP g + 1 = l.countP f
  | [], _, hx => by cases hx
  | y :: l, hn, hx => by
    rw [List.nodup_cons] at hn
    rw [List.countP_cons, List.countP_cons]
    by_cases e : y = x
    · subst e
      rw [hf, hg, if_neg Bool.false_ne_true, if_pos rfl]
      have : l.countP g = l.countP f := List.countP_congr fun z hz => by
        rw [h z fun e => hn.1 (e ▸ hz)]
      omega
    · have hx2 : x ∈ l := by
        rcases List.mem_cons.mp hx with rfl | hx
        · exact absurd rfl e
        · exact hx
      have := countP_less hf hg h hn.2 hx2
      rw [h y e]
      omega
theorem inv_down {n : Int} {r : List Int} (hr : RowOk n r) {i : Nat} (h : i + 1 < r.length) (hf : r.getD (i + 1) 0 < r.getD i 0) : inv n (exch r i) + 1 = inv n r := by
  have ed := exch_down hr h hf
  have m0 : r.getD i 0 ∈ r := List.mem_of_getElem? (getD_get (by omega))
  have m1 : r.getD (i + 1) 0 ∈ r := List.mem_of_getElem? (getD_get h)
  rw [hr.mem] at m0 m1
  have ht : tur r (r.getD (i + 1) 0) (r.getD i 0) := ⟨hf, i, i + 1, by omega, getD_get (by omega), getD_get h⟩
  unfold inv
  refine countP_less (x := (r.getD (i + 1) 0, r.getD i 0)) (turB_iff.mpr ht) ?_ (fun y hy => ?_) allP_nodup (allP_mem.mpr ⟨by omega, hf, by omega⟩)
  · rw [Bool.eq_false_iff]
    intro e
    exact ((ed _ _).mp (turB_iff.mp e)).2 ⟨rfl, rfl⟩
  · rw [Bool.eq_iff_iff, turB_iff, turB_iff, ed]
    refine ⟨fun z => z.1, fun z => ⟨z, fun ⟨e1, e2⟩ => hy (Prod.ext e1 e2)⟩⟩
theorem isFall_lt {r : List Int} {i : Nat} (h : isFall r i = true) : r.getD (i + 1) 0 < r.getD i 0 := of_decide_eq_true h
theorem way_inv {n : Int} {c : Arc3 → Bool} : ∀ {w : List Nat} {r : List Int}, RowOk n r → IsWay c r w → inv n (goAlong r w) + w.length = inv n r
  | [], _, _, _ => rfl
  | i :: w, r, h, hw => by
    have h1 := h.len
    have h2 := hw.1
    have e := inv_down h h2 (isFall_lt hw.2.1)
    have := way_inv (w := w) (r := exch r i) (h.exch (by omega)) hw.2.2.2
    show inv n (goAlong (exch r i) w) + (w.length + 1) = _
    omega
theorem inv_small {n : Int} {r : List Int} (hr : RowOk n r) (h1 : 1 ≤ n) : inv n r ≤ r.length * r.length := by
  have h3 := hr.len
  have e : 2 * ((allP n).length : Int) = n * (n - 1) := allP_len h1
  have z : inv n r ≤ (allP n).length := List.countP_le_length
  have y : ((r.length * r.length : Nat) : Int) = n * n := by rw [Int.natCast_mul, h3]
  rw [Int.mul_sub, Int.mul_one] at e
  have : 0 ≤ n * n := Int.mul_nonneg (by omega) (by omega)
  omega
theorem wayL_ends {n : Int} {c : Arc3 → Bool} : ∀ {m : Nat} {r : List Int}, RowOk n r → inv n r ≤ m → ∃ k, k ≤ m ∧ blindL c true (goAlong r (wayL c k r)) = []
  | 0, r, hr, hm => by
    refine ⟨0, Nat.le_refl _, ?_⟩
    show blindL c true r = []
    cases hb : blindL c true r with
    | nil => rfl
    | cons i t =>
      obtain ⟨h1, h2, _⟩ := blindL_lt (c := c) (f := true) (r := r) (i := i) (by rw [hb]; simp)
      have := inv_down hr h1 (isFall_lt h2)
      omega
  | m + 1, r, hr, hm => by
    cases hb : blindL c true r with
    | nil => exact ⟨0, Nat.zero_le _, hb⟩
    | cons i t =>
      obtain ⟨h1, h2, _⟩ := blindL_lt (c := c) (f := true) (r := r) (i := i) (by rw [hb]; simp)
      have e := inv_down hr h1 (isFall_lt h2)
      have h3 := hr.len
      obtain ⟨k, hk, h⟩ := wayL_ends (m := m) (r := exch r i) (hr.exch (by omega)) (by omega)
      refine ⟨k + 1, by omega, ?_⟩
      simp only [wayL, hb]
      exact h
/-- the way down, to its end -/
def downL (c : Arc3 → Bool) (r : List Int) : List Nat := wayL c (r.length * r.length) r
def firstL (c : Arc3 → Bool) (r : List Int) : List Int := goAlong r (downL c r)
theorem downL_end {n : Int} {c : Arc3 → Bool} {r : List Int} (hr : RowOk n r) (h1 : 1 ≤ n) : blindL c true (firstL c r) = [] := by
  obtain ⟨k, hk, h⟩ := wayL_ends (c := c) hr (inv_small hr h1)
  unfold firstL downL
  rw [wayL_stop h _ hk]
  exact h
theorem downL_way {c : Arc3 → Bool} {r : List Int} : IsWay c r (downL c r) := wayL_isWay
theorem firstL_row {n : Int} {c : Arc3 → Bool} {r : List Int} (hr : RowOk n r) : RowOk n (firstL c r) := wayL_rows hr
theorem downL_len {n : Int} {c : Arc3 → Bool} {r : List Int} (hr : RowOk n r) (h1 : 1 ≤ n) : (downL c r).length ≤ r.length * r.length := by
  have := way_inv hr (downL_way (c := c))
  have := inv_small hr h1
  omega
theorem downL_stop {c : Arc3 → Bool} {k : Nat} {r : List Int} (h : blindL c true (goAlong r (wayL c k r)) = []) (hk : k ≤ r.length * r.length) : downL c r = wayL c k r := wayL_stop h _ hk

def C_way_to_first : Con := fun _ es P => ∃ (n : Int) (L : List Arc3) (r : List Int), es = [.dat (.int n), .dat (.tuple (L.map arcT)), .dat (.tuple (intsD r))] ∧ RowOk n r ∧ 1 ≤ n ∧ P (.dat (.tuple (intsD ((downL (inL L) r).map fun i : Nat => (i : Int)))))
theorem ok_way_to_first (T : Tx K mg) : FnOk P w K mg base CX0 7 T.f_way_to_first T.d_way_to_first ["n", "rule", "row"] (SpC K C_way_to_first) := by
  refine kfn T.F_way_to_first sc_way_to_first (fun W es P ⟨_, _, _, h, _⟩ => by rw [h]; rfl) fun cdv A outer s H E hr => ⟨_, (pss_cons (ps_set (i := 3) sc_way_to_first.nd rfl (by first | exact Or.inl rfl | exact Or.inr rfl) (pe_lst pa_nil))
      (pss_cons (ps_set (i := 4) sc_way_to_first.nd rfl (by first | exact Or.inl rfl | exact Or.inr rfl) (pe_call (ok_blind_falls T) hr (by rfl) T.g_blind_falls T.F_blind_falls.kp T.b_blind_falls .nil pass0 (pa_cons (pv 0) (pa_cons (pv 1) (pa_cons (pv 2) pa_nil)))))
      (pss_cons (ps_while PassesOwn.never (pt_truK (K := K) rfl (pv 4) (by intro _; rfl)) (pss_cons (ps_expr (pe_bm PySem.F.plainAttrs_list PySem.F.slot_list_append PySem.F.type_list_append mt_append (pv 3) (pa_cons (pe_ix (ix_K (K := K) rfl) (pv 4) pe_int (fun _ _ => rfl)) pa_nil)))
      (pss_cons (ps_set (i := 2) sc_way_to_first.nd rfl (by first | exact Or.inl rfl | exact Or.inr rfl) (pe_call (ok_exchanged T) (hr.mono (by decide)) (by rfl) T.g_exchanged T.F_exchanged.kp T.b_exchanged .nil pass0 (pa_cons (pv 0) (pa_cons (pv 2) (pa_cons (pe_ix (ix_K (K := K) rfl) (pv 4) pe_int (fun _ _ => rfl)) pa_nil)))))
      (pss_one (ps_set (i := 4) sc_way_to_first.nd rfl (by first | exact Or.inl rfl | exact Or.inr rfl) (pe_call (ok_blind_falls T) hr (by rfl) T.g_blind_falls T.F_blind_falls.kp T.b_blind_falls .nil pass0 (pa_cons (pv 0) (pa_cons (pv 1) (pa_cons (pv 2) pa_nil)))))))))
      (pss_one (ps_ret (pe_callTy (cr_tupK (K := K) rfl) (by rfl) T.m_tuple (by decide +kernel) (pa_cons (pv 3) pa_nil))))))), fun W es P hC => ?_⟩
  obtain ⟨n, L, r, rfl, ho, hn, q⟩ := hC
  have h2 := ho.hi
  have h3 := ho.len
  have hsq : r.length * r.length ≤ 60 * 60 := Nat.mul_le_mul (by omega) (by omega)
  try dsimp only [cx_K, cx_w]
  refine ds_seq (ds_newL fun p hp => ?_)
  walk_at "ka"
  refine ⟨n, L, r, rfl, ho, ?_⟩
  refine ds_seq (ds_while (fun mm W' Δ' => ∃ k s, W' = W.hide p (knL K (intsD ((wayL (inL L) k r).map fun i : Nat => (i : Int)))) ∧ goAlong r (wayL (inL L) k r) = s ∧ (wayL (inL L) k r).length = k ∧ inv n s = mm ∧ Δ' = [some (.dat (.int n)), some (.dat (.tuple (L.map arcT))), some (.dat (.tuple (intsD s))), some (.raw (.ref p)), some (.dat (.list ((blindL (inL L) true s).map fun i : Nat => .int i)))]) ⟨_, 0, r, rfl, rfl, rfl, rfl, rfl⟩ ?_)
  rintro mm W' Δ' ⟨k, s, rfl, hs, hk, hm, rfl⟩
  have hrow : RowOk n s := by rw [← hs]; exact wayL_rows ho
  have hki := way_inv ho (wayL_isWay (c := inL L) (k := k) (r := r))
  have hsm := inv_small ho hn
  rw [hs, hk] at hki
  have s3 := hrow.len
  have hmem : ∀ i ∈ blindL (inL L) true s, i + 1 < s.length ∧ isFall s i = true := fun i hi => ⟨(blindL_lt hi).1, (blindL_lt hi).2.1⟩
  have hstep : ∀ bs, blindL (inL L) true s = bs → (bs = [] → downL (inL L) r = wayL (inL L) k r) ∧ ∀ i t, bs = i :: t → wayL (inL L) (k + 1) r = wayL (inL L) k r ++ [i] := fun bs hbs =>
    ⟨fun e => downL_stop (by rw [hs, hbs, e]) (by omega), fun i t e => wayL_next (t := t) (by rw [hs, hbs, e])⟩
  obtain ⟨st1, st2⟩ := hstep _ rfl
  generalize blindL (inL L) true s = bs at st1 st2 hmem
  cases bs with
  | nil =>
    walk_at "ka"
    refine ⟨(fun z hz => by cases hz), nofun, fun _ => ?_⟩
    refine ds_see (i := 3) hp rfl ?_
    walk_at "ka"
    rw [st1 rfl] at q
    exact ⟨Wd.Le.refl W, q⟩
  | cons i t =>
    obtain ⟨m1, m2⟩ := hmem i (by simp)
    walk_at "ka"
    refine ⟨(fun z hz => by cases hz), fun _ => ?_, nofun⟩
    refine ds_seq (ds_app (i := 3) rfl (by rw [intsD_len, List.length_map, hk]; omega) ?_)
    walk_at "ka"
    refine opd_ixL (atI_nat (j := 0) rfl) ?_
    walk_at "ka"
    refine opd_ixL (atI_nat (j := 0) rfl) ?_
    walk_at "ka"
    refine ⟨n, s, i, rfl, hrow, by omega, ?_⟩
    walk_at "ka"
    have hrow2 : RowOk n (exch s i) := hrow.exch (by omega)
    refine ⟨n, L, exch s i, rfl, hrow2, ?_⟩
    have e := st2 i t rfl
    have ei := inv_down hrow m1 (isFall_lt m2)
    refine ⟨inv n (exch s i), by omega, k + 1, exch s i, ?_, ?_, ?_, rfl, rfl⟩
    · rw [e, List.map_append]
      unfold intsD
      rw [List.map_append]
      rfl
    · rw [e, goAlong_snoc, hs]
    · rw [e, List.length_append, hk]
      rfl

theorem atI_last {α : Type} {xs : List α} {x : α} {k : Nat} (h : xs[k]? = some x) (hk : xs.length = k + 1) : atI xs (-1) = some x := by
  unfold atI ixN
  rw [if_neg (by decide), if_pos (by omega)]
  show xs[(-1 + (xs.length : Int)).toNat]? = _
  rw [show (-1 + (xs.length : Int)).toNat = k by omega]
  exact h
theorem isWay_steps {n : Int} {c : Arc3 → Bool} : ∀ {w : List Nat} {r : List Int}, RowOk n r → IsWay c r w → ∀ i ∈ w, (i : Int) ≤ n - 2
  | [], _, _, _, _, h => by cases h
  | i :: w, r, h, hw, j, hj => by
    have h1 := h.len
    have h2 := hw.1
    rcases List.mem_cons.mp hj with rfl | hj
    · omega
    · exact isWay_steps (h.exch (by omega)) hw.2.2.2 j hj
theorem sixty {n : Int} {r : List Int} (h : RowOk n r) : r.length * r.length ≤ 3600 := by
  have h1 := h.len
  have h2 := h.hi
  exact Nat.le_trans (Nat.mul_le_mul (show r.length ≤ 60 by omega) (show r.length ≤ 60 by omega)) (by decide)
def C_first_in_class : Con := fun _ es P => ∃ (n : Int) (L : List Arc3) (r : List Int), es = [.dat (.int n), .dat (.tuple (L.map arcT)), .dat (.tuple (intsD r))] ∧ RowOk n r ∧ 1 ≤ n ∧ P (.dat (.tuple (intsD (firstL (inL L) r))))
theorem ok_first_in_class (T : Tx K mg) : FnOk P w K mg base CX0 8 T.f_first_in_class T.d_first_in_class ["n", "rule", "row"] (SpC K C_first_in_class) := by
  refine kfn T.F_first_in_class sc_first_in_class (fun W es P ⟨_, _, _, h, _⟩ => by rw [h]; rfl) fun cdv A outer s H E hr => ⟨_, (pss_one (ps_ret (pe_ix (ix_K (K := K) rfl) (pe_call (ok_rows_along T) (hr.mono (by decide)) (by rfl) T.g_rows_along T.F_rows_along.kp T.b_rows_along .nil pass0 (pa_cons (pv 0) (pa_cons (pv 2) (pa_cons (pe_call (ok_way_to_first T) hr (by rfl) T.g_way_to_first T.F_way_to_first.kp T.b_way_to_first .nil pass0 (pa_cons (pv 0) (pa_cons (pv 1) (pa_cons (pv 2) pa_nil)))) pa_nil)))) (pe_un un_neg pe_int) (fun _ _ => rfl)))), fun W es P hC => ?_⟩
  obtain ⟨n, L, r, rfl, ho, hn, q⟩ := hC
  try dsimp only [cx_K, cx_w]
  walk_at "ka"
  refine ⟨n, L, r, rfl, ho, hn, ?_⟩
  have hl := downL_len (c := inL L) ho hn
  have h6 := sixty ho
  walk_at "ka"
  refine ⟨n, r, downL (inL L) r, rfl, ho, isWay_steps ho downL_way, by omega, ?_⟩
  walk_at "ka"
  refine opd_ixL (atI_last (k := (downL (inL L) r).length) (x := .tuple (intsD (firstL (inL L) r))) ?_ ?_) ⟨Wd.Le.refl W, q⟩
  · rw [List.getElem?_map, rowsL_last]
    rfl
  · rw [List.length_map, rowsL_len]

/-- one lies within other, of arcs -/
def lies3 (p q : Arc3) : Bool := decide (q.1 ≤ p.1) && (decide (p.2.1 ≤ q.2.1) && decide (p.2.2 = betw p.1 p.2.1 q.2.2))
def C__law_lies : Con := fun _ es P => ∃ p q : Arc3, es = [.dat (arcT p), .dat (arcT q)] ∧ q.2.2.length ≤ 1000 ∧ p.2.2.length ≤ 1000 ∧ P (.dat (.bool (lies3 p q)))
theorem ok__law_lies (T : Tx K mg) : FnOk P w K mg base CX0 1 T.f__law_lies T.d__law_lies ["one", "other"] (SpC K C__law_lies) := by
  refine kfn T.F__law_lies sc__law_lies (fun W es P ⟨_, _, h, _⟩ => by rw [h]; rfl) fun cdv A outer s H E hr => ⟨_, (pss_cons (ps_asg (pv 0) (pg_tupK (K := K) rfl (pg_tup (n := 3) rfl (pgs_cons (pg_name (i := 2) sc__law_lies.nd rfl (by first | exact Or.inl rfl | exact Or.inr rfl)) (pgs_cons (pg_name (i := 3) sc__law_lies.nd rfl (by first | exact Or.inl rfl | exact Or.inr rfl)) (pgs_cons (pg_name (i := 4) sc__law_lies.nd rfl (by first | exact Or.inl rfl | exact Or.inr rfl)) pgs_nil))))))
      (pss_cons (ps_asg (pv 1) (pg_tupK (K := K) rfl (pg_tup (n := 3) rfl (pgs_cons (pg_name (i := 5) sc__law_lies.nd rfl (by first | exact Or.inl rfl | exact Or.inr rfl)) (pgs_cons (pg_name (i := 6) sc__law_lies.nd rfl (by first | exact Or.inl rfl | exact Or.inr rfl)) (pgs_cons (pg_name (i := 7) sc__law_lies.nd rfl (by first | exact Or.inl rfl | exact Or.inr rfl)) pgs_nil))))))
      (pss_one (ps_ret (pe_and (pe_cmpR op_ge (pv 2) (pv 5) (nomark _)) (pe_and (pe_cmpR op_le (pv 3) (pv 6) (nomark _)) (pe_one (pe_cmpR (op_eqK (K := K) rfl hr.units) (pe_callTy (cr_lstK (K := K) rfl) (by rfl) T.m_list (by decide +kernel) (pa_cons (pv 4) pa_nil)) (pe_lc (own := [("p", 8)]) rfl sc__law_lies.nd (pi_seqK (K := K) rfl (pv 7)) (blkOk_by (N := N__law_lies) (sc := defScope s__law_lies) (by decide +kernel)) (fun _ _ _ _ _ => (pg_name (i := 8) sc__law_lies.nd rfl (by first | exact Or.inl rfl | exact Or.inr rfl))) (fun _ _ _ _ _ => (pts_one (pt_chain op_lt op_lt (pv 2) (pv 8) (pv 3)))) (fun _ _ _ _ _ => (pv 8))) (nomark _))))))))), fun W es P hC => ?_⟩
  obtain ⟨⟨c, d, R⟩, ⟨a, b, S⟩, rfl, hS, hR, q⟩ := hC
  have hS : S.length ≤ 1000 := hS
  have hR : R.length ≤ 1000 := hR
  unfold lies3 at q
  try dsimp only [cx_K, cx_w]
  unfold arcT arcD
  walk_at "ka"
  refine ⟨_, _, tg_tup3, ?_⟩
  walk_at "ka"
  refine ⟨_, _, tg_tup3, ?_⟩
  walk_at "ka"
  dsimp only at q ⊢
  refine ⟨fun e => ?_, fun e => ?_⟩
  · walk_at "ka"
    refine ⟨fun e2 => ?_, fun e2 => ?_⟩
    · walk_at "ka"
      refine de_lcM S (fun p => DV.dat (.int p)) (fun p => decide (c < p) && decide (p < d)) (fun p => .int p) (di_seqT ?_) (by omega) ?_ ?_
      · walk_at "ka"
        exact intsD_dat S
      · intro p hp W' hW
        refine ⟨_, _, tg_name, by simp, ?_⟩
        walk_at "ka"
        refine ⟨fun e => ?_, fun e => ⟨_, rfl, ?_⟩⟩
        · walk_at "ka"
          refine ⟨by rw [e, Bool.true_and], fun e2 => ?_⟩
          walk_at "ka"
          rfl
        · rw [e, Bool.false_and]
          exact ⟨rfl, nofun⟩
      · show OpD _ _ _ (DV.dat (.list (intsD R))) (DV.dat (.list (intsD (betw c d S)))) _
        refine opd_eq (shaped_listI R) (shaped_listI (betw c d S)) ⟨Wd.Le.refl W, ?_⟩
        have e3 : PyData.eqv (.list (intsD R)) (.list (intsD (betw c d S))) = decide (R = betw c d S) := by
          show PyData.eqvAll (intsD R) (intsD (betw c d S)) = _
          rw [eqvAll_ints]
        rw [e3]
        rw [e, e2, Bool.true_and, Bool.true_and] at q
        exact q
    · rw [e, e2] at q
      exact ⟨Wd.Le.refl W, q⟩
  · rw [e] at q
    exact ⟨Wd.Le.refl W, q⟩

def within3 (p : Arc3) : List Arc3 := (rgN p.1 (p.2.1 - p.1).toNat).flatMap fun c => (rgN (c + 1) (p.2.1 - c).toNat).map fun d => (c, d, betw c d p.2.2)
def C__law_within : Con := fun _ es P => ∃ (n : Int) (p : Arc3), es = [.dat (arcT p)] ∧ ArcOk n p.1 p.2.1 p.2.2 ∧ n ≤ 60 ∧ P (.dat (.list ((within3 p).map arcT)))
theorem ok__law_within (T : Tx K mg) : FnOk P w K mg base CX0 1 T.f__law_within T.d__law_within ["arc"] (SpC K C__law_within) := by
  refine kfn T.F__law_within sc__law_within (fun W es P ⟨_, _, h, _⟩ => by rw [h]; rfl) fun cdv A outer s H E hr => ⟨_, (pss_cons (ps_asg (pv 0) (pg_tupK (K := K) rfl (pg_tup (n := 3) rfl (pgs_cons (pg_name (i := 1) sc__law_within.nd rfl (by first | exact Or.inl rfl | exact Or.inr rfl)) (pgs_cons (pg_name (i := 2) sc__law_within.nd rfl (by first | exact Or.inl rfl | exact Or.inr rfl)) (pgs_cons (pg_name (i := 3) sc__law_within.nd rfl (by first | exact Or.inl rfl | exact Or.inr rfl)) pgs_nil))))))
      (pss_cons (ps_set (i := 4) sc__law_within.nd rfl (by first | exact Or.inl rfl | exact Or.inr rfl) (pe_lst pa_nil))
      (pss_cons (ps_for PassesOwn.never rfl (pi_range2 rfl T.m_range (pa_cons (pv 1) (pa_cons (pv 2) pa_nil))) (pg_name (i := 5) sc__law_within.nd rfl (by first | exact Or.inl rfl | exact Or.inr rfl)) (pss_one (ps_expr (pe_bm PySem.F.plainAttrs_list PySem.F.slot_list_extend PySem.F.type_list_extend mt_extend (pv 4) (pa_cons (pe_lc (own := [("d", 6)]) rfl sc__law_within.nd (pi_range2 rfl T.m_range (pa_cons (pe_op (op_addK (K := K) rfl) (pv 5) pe_int) (pa_cons (pe_op (op_addK (K := K) rfl) (pv 2) pe_int) pa_nil))) (blkOk_by (N := N__law_within) (sc := defScope s__law_within) (by decide +kernel)) (fun _ _ _ _ _ => (pg_name (i := 6) sc__law_within.nd rfl (by first | exact Or.inl rfl | exact Or.inr rfl))) (fun _ _ _ _ _ => pts_nil) (fun _ _ _ _ _ => (pe_tup (pa_cons (pv 5) (pa_cons (pv 6) (pa_cons (pe_callTy (cr_tupK (K := K) rfl) (by rfl) T.m_tuple (by decide +kernel) (pa_cons (pe_lc (own := [("p", 7)]) rfl sc__law_within.nd (pi_seqK (K := K) rfl (pv 3)) (blk_deep (N := N__law_within) (by decide +kernel)) (fun _ _ _ _ _ => (pg_name (i := 7) sc__law_within.nd rfl (by first | exact Or.inl rfl | exact Or.inr rfl))) (fun _ _ _ _ _ => (pts_one (pt_chain op_lt op_lt (pv 5) (pv 7) (pv 6)))) (fun _ _ _ _ _ => (pv 7))) pa_nil)) pa_nil)))))) pa_nil)))))
      (pss_one (ps_ret (pv 4)))))), fun W es P hC => ?_⟩
  obtain ⟨n, ⟨a, b, S⟩, rfl, ho, hn, q⟩ := hC
  have h1 : 1 ≤ a := ho.lo
  have h2 : a < b := ho.lt
  have h3 : b ≤ n := ho.hi
  have h4 : S.length ≤ 1000 := by
    have : S.length ≤ (b - a - 1).toNat := ho.len
    omega
  try dsimp only [cx_K, cx_w]
  unfold arcT arcD
  dsimp only
  walk_at "ka"
  refine ⟨_, _, tg_tup3, ?_⟩
  refine ds_seq (ds_newL fun p hp => ?_)
  refine ds_seq (ds_for ?_)
  walk_at "ka"
  refine ⟨a, b, rfl, by omega, by omega, fun i W' Δ' => W' = W.hide p (knL K (((rgN a i).flatMap fun c => (rgN (c + 1) (b - c).toNat).map fun d => arcD c d (betw c d S)))) ∧ ((rgN a i).flatMap fun c => (rgN (c + 1) (b - c).toNat).map fun d => arcD c d (betw c d S)).length ≤ i * 60 ∧ ∃ x, Δ' = [some (.dat (arcD a b S)), some (.dat (.int a)), some (.dat (.int b)), some (.dat (.tuple (intsD S))), some (.raw (.ref p)), x, none, none], ⟨rfl, Nat.zero_le _, none, rfl⟩, ?_, ?_⟩
  · rintro i e W' Δ' he ⟨rfl, hl, x, rfl⟩
    obtain ⟨hi, rfl⟩ := rgN_at he
    refine ⟨_, _, tg_name, ?_⟩
    refine ds_ext (i := 4) rfl ?_
    refine de_lcM (rgN (a + i + 1) (b - (a + i)).toNat) (fun d => DV.dat (.int d)) (fun _ => true) (fun d => arcD (a + i) d (betw (a + i) d S)) ?_ (by rw [rgN_length]; omega) ?_ ?_
    · walk_at "ka"
      refine ⟨a + i + 1, b + 1, rfl, by omega, by omega, ?_⟩
      rw [show (b + 1 - (a + (i : Int) + 1)).toNat = (b - (a + (i : Int))).toNat by omega]
    · intro d hd W'' hW
      refine ⟨_, _, tg_name, by simp, ?_⟩
      walk_at "ka"
      refine ⟨rfl, fun _ => ?_⟩
      walk_at "ka"
      refine de_lcM S (fun q => DV.dat (.int q)) (fun q => decide (a + i < q) && decide (q < d)) (fun q => .int q) (di_seqT ?_) (by omega) ?_ ?_
      · walk_at "ka"
        exact intsD_dat S
      · intro q hq W3 hW3
        refine ⟨_, _, tg_name, by simp, ?_⟩
        walk_at "ka"
        refine ⟨fun e => ?_, fun e => ⟨_, rfl, ?_⟩⟩
        · walk_at "ka"
          refine ⟨by rw [e, Bool.true_and], fun e2 => ?_⟩
          walk_at "ka"
          rfl
        · rw [e, Bool.false_and]
          exact ⟨rfl, nofun⟩
      · walk_at "ka"
        rfl
    · rw [List.filter_eq_self.mpr (fun _ _ => rfl)]
      have hz : ((rgN (a + i + 1) (b - (a + i)).toNat).map fun d => arcD (a + i) d (betw (a + i) d S)).length ≤ 60 := by
        rw [List.length_map, rgN_length]
        omega
      have e : ((rgN a (i + 1)).flatMap fun c => (rgN (c + 1) (b - c).toNat).map fun d => arcD c d (betw c d S)) = ((rgN a i).flatMap fun c => (rgN (c + 1) (b - c).toNat).map fun d => arcD c d (betw c d S)) ++ (rgN (a + i + 1) (b - (a + i)).toNat).map fun d => arcD (a + i) d (betw (a + i) d S) := by
        rw [rgN_succ, List.flatMap_append]
        simp
      refine ⟨_, rfl, by omega, ?_, ?_, _, rfl⟩
      · rw [e]
      · rw [e, List.length_append]
        omega
  · rintro W' Δ' ⟨rfl, hl, x, rfl⟩
    rw [List.length_map, rgN_length]
    refine ds_see (i := 4) hp rfl ?_
    walk_at "ka"
    have e : (within3 (a, b, S)).map arcT = ((rgN a (b - a).toNat).flatMap fun c => (rgN (c + 1) (b - c).toNat).map fun d => arcD c d (betw c d S)) := by
      unfold within3
      rw [List.map_flatMap]
      congr 1
      funext c
      rw [List.map_map]
      rfl
    rw [e] at q
    exact ⟨Wd.Le.refl W, q⟩

/-! widest rules and least blind arcs -/
theorem map_arcT_inj : ∀ {A B : List Arc3}, A.map arcT = B.map arcT → A = B
  | [], [], _ => rfl
  | [], _ :: _, h => by cases h
  | _ :: _, [], h => by cases h
  | a :: A, b :: B, h => by
    rw [List.map_cons, List.map_cons] at h
    injection h with h1 h2
    rw [arcT_inj h1, map_arcT_inj h2]
noncomputable def allA (n : Int) : List Arc3 := (arcs_sorted n).choose
theorem allA_sort (n : Int) : ((arcsN n).map arcT).mergeSort (PySem.W.dataLe false id) = (allA n).map arcT := (arcs_sorted n).choose_spec.1
theorem allA_mem {n : Int} (h0 : 0 ≤ n) {p : Arc3} : p ∈ allA n ↔ ArcOk n p.1 p.2.1 p.2.2 := ((arcs_sorted n).choose_spec.2 p).trans (arcsN_mem h0)
theorem allA_rule {n : Int} (h0 : 0 ≤ n) : RuleOk n (allA n) := by
  obtain ⟨A, h1, _, h2, _⟩ := arcs_all n h0
  rw [allA_sort n] at h1
  rw [map_arcT_inj h1]
  exact h2
theorem AscOk.part {n : Int} {A : List Arc3} (h : AscOk n A) (f : Arc3 → Bool) : AscOk n (A.filter f) := ⟨fun p hp => h.ok p (List.mem_filter.mp hp).1, h.nd.sublist List.filter_sublist, h.srt.sublist (List.filter_sublist.map arcT)⟩
/-- ascending arcs are told by which they are -/
theorem asc_eq {n m : Int} {A B : List Arc3} (hA : AscOk n A) (hB : AscOk m B) (h : ∀ p, p ∈ A ↔ p ∈ B) : A = B := by
  have hp : (A.map arcT).Perm (B.map arcT) := ((List.perm_ext_iff_of_nodup hA.nd hB.nd).mpr h).map arcT
  have e := arcs_sort_same hB hp
  rw [List.mergeSort_of_pairwise hA.srt] at e
  exact map_arcT_inj e
theorem lies_iff {o p : Arc3} : lies3 o p = true ↔ p.1 ≤ o.1 ∧ o.2.1 ≤ p.2.1 ∧ o.2.2 = betw o.1 o.2.1 p.2.2 := by
  unfold lies3
  rw [Bool.and_eq_true, Bool.and_eq_true, decide_eq_true_iff, decide_eq_true_iff, decide_eq_true_iff]
theorem betw_in {c d c' d' : Int} {S : List Int} (h1 : c ≤ c') (h2 : d' ≤ d) : betw c' d' (betw c d S) = betw c' d' S := by
  unfold betw
  rw [List.filter_filter]
  refine List.filter_congr fun p _ => ?_
  rw [Bool.eq_iff_iff]
  simp only [Bool.and_eq_true, decide_eq_true_iff]
  omega
theorem betw_own {n : Int} {p : Arc3} (h : ArcOk n p.1 p.2.1 p.2.2) : betw p.1 p.2.1 p.2.2 = p.2.2 := List.filter_eq_self.mpr fun x hx => by
  have := h.mem x hx
  rw [decide_eq_true this.1, decide_eq_true this.2]
  rfl
theorem lies_self {n : Int} {p : Arc3} (h : ArcOk n p.1 p.2.1 p.2.2) : lies3 p p = true := lies_iff.mpr ⟨Int.le_refl _, Int.le_refl _, (betw_own h).symm⟩
theorem lies_trans {o p q : Arc3} (h1 : lies3 o p = true) (h2 : lies3 p q = true) : lies3 o q = true := by
  rw [lies_iff] at *
  obtain ⟨a1, a2, a3⟩ := h1
  obtain ⟨b1, b2, b3⟩ := h2
  refine ⟨by omega, by omega, ?_⟩
  rw [a3, b3, betw_in a1 a2]
theorem lies_width {o p : Arc3} (h : lies3 o p = true) : o.2.1 - o.1 ≤ p.2.1 - p.1 := by
  obtain ⟨h1, h2, _⟩ := lies_iff.mp h
  omega
theorem short_lies {p q : Arc3} (h : q ∈ short3 p) : lies3 q p = true ∧ q.2.1 - q.1 + 1 = p.2.1 - p.1 := by
  unfold short3 at h
  by_cases e : p.2.1 - p.1 = 1
  · rw [if_pos e] at h
    cases h
  · rw [if_neg e] at h
    rcases List.mem_cons.mp h with rfl | h
    · exact ⟨lies_iff.mpr ⟨Int.le_refl _, by show p.2.1 - 1 ≤ p.2.1; omega, rfl⟩, by show p.2.1 - 1 - p.1 + 1 = p.2.1 - p.1; omega⟩
    · rw [List.mem_singleton] at h
      subst h
      exact ⟨lies_iff.mpr ⟨by show p.1 ≤ p.1 + 1; omega, Int.le_refl _, rfl⟩, by show p.2.1 - (p.1 + 1) + 1 = p.2.1 - p.1; omega⟩
theorem lies_short {n : Int} {o p : Arc3} (ho : ArcOk n o.1 o.2.1 o.2.2) (hp : ArcOk n p.1 p.2.1 p.2.2) (h : lies3 o p = true) (ne : o ≠ p) : ∃ q ∈ short3 p, lies3 o q = true := by
  obtain ⟨h1, h2, h3⟩ := lies_iff.mp h
  have o2 := ho.lt
  have p2 := hp.lt
  by_cases c : o.2.1 < p.2.1
  · refine ⟨(p.1, p.2.1 - 1, betw p.1 (p.2.1 - 1) p.2.2), ?_, lies_iff.mpr ⟨h1, by show o.2.1 ≤ p.2.1 - 1; omega, ?_⟩⟩
    · unfold short3
      rw [if_neg (by omega)]
      simp
    · show o.2.2 = betw o.1 o.2.1 (betw p.1 (p.2.1 - 1) p.2.2)
      rw [betw_in h1 (by omega)]
      exact h3
  · by_cases c2 : p.1 < o.1
    · refine ⟨(p.1 + 1, p.2.1, betw (p.1 + 1) p.2.1 p.2.2), ?_, lies_iff.mpr ⟨by show p.1 + 1 ≤ o.1; omega, h2, ?_⟩⟩
      · unfold short3
        rw [if_neg (by omega)]
        simp
      · show o.2.2 = betw o.1 o.2.1 (betw (p.1 + 1) p.2.1 p.2.2)
        rw [betw_in (by omega) h2]
        exact h3
    · refine absurd ?_ ne
      have e1 : o.1 = p.1 := by omega
      have e2 : o.2.1 = p.2.1 := by omega
      rw [e1, e2, betw_own hp] at h3
      exact Prod.ext e1 (Prod.ext e2 h3)
/-- a rule has all arcs within its arcs -/
theorem rule_lies {n : Int} {L : List Arc3} (h : RuleOk n L) {o : Arc3} (ho : ArcOk n o.1 o.2.1 o.2.2) : ∀ (k : Nat) (p : Arc3), (p.2.1 - p.1).toNat ≤ k → p ∈ L → lies3 o p = true → o ∈ L
  | 0, p, hk, hp, _ => by
    have := (h.ok p hp).lt
    omega
  | k + 1, p, hk, hp, hl => by
    by_cases e : o = p
    · rw [e]
      exact hp
    · obtain ⟨q, hq, hlq⟩ := lies_short ho (h.ok p hp) hl e
      have := short_lies hq
      have := (h.ok p hp).lt
      exact rule_lies h ho k q (by omega) (h.closed p hp q hq) hlq
noncomputable def widestL (n : Int) (L : List Arc3) : List Arc3 := (allA n).filter fun p => !L.any fun o => lies3 o p
noncomputable def blindA (n : Int) (L : List Arc3) : List Arc3 := (allA n).filter fun p => !decide (p ∈ L)
noncomputable def leastB (n : Int) (L : List Arc3) : List Arc3 := (blindA n L).filter fun p => (short3 p).all fun q => decide (q ∈ L)
def leastL (L : List Arc3) : List Arc3 := L.filter fun p => !L.any fun o => !decide (o = p) && lies3 o p
theorem widest_mem {n : Int} (h0 : 0 ≤ n) {L : List Arc3} {p : Arc3} : p ∈ widestL n L ↔ ArcOk n p.1 p.2.1 p.2.2 ∧ ∀ o ∈ L, lies3 o p = false := by
  unfold widestL
  rw [List.mem_filter, allA_mem h0, Bool.not_eq_true', List.any_eq_false]
  simp only [Bool.not_eq_true]
theorem leastB_mem {n : Int} (h0 : 0 ≤ n) {L : List Arc3} {p : Arc3} : p ∈ leastB n L ↔ ArcOk n p.1 p.2.1 p.2.2 ∧ p ∉ L ∧ ∀ q ∈ short3 p, q ∈ L := by
  unfold leastB blindA
  rw [List.mem_filter, List.mem_filter, allA_mem h0, Bool.not_eq_true', decide_eq_false_iff_not, List.all_eq_true]
  simp only [decide_eq_true_iff]
  exact and_assoc
theorem leastL_mem {L : List Arc3} {p : Arc3} : p ∈ leastL L ↔ p ∈ L ∧ ∀ o ∈ L, o ≠ p → lies3 o p = false := by
  unfold leastL
  rw [List.mem_filter, Bool.not_eq_true', List.any_eq_false]
  refine and_congr Iff.rfl ⟨fun h o ho ne => ?_, fun h o ho hh => ?_⟩
  · have := h o ho
    rw [decide_eq_false ne] at this
    simpa using this
  · rw [Bool.and_eq_true, Bool.not_eq_true', decide_eq_false_iff_not] at hh
    rw [h o ho hh.1] at hh
    cases hh.2
theorem leastB_asc {n : Int} (h0 : 0 ≤ n) (L : List Arc3) : AscOk n (leastB n L) := ((allA_rule h0).asc.part _).part _
/-- the least blind arcs of the widest rule are the least of the told arcs -/
theorem leastB_widest {n : Int} (h0 : 0 ≤ n) {L : List Arc3} (hL : AscOk n L) : leastB n (widestL n L) = leastL L := by
  refine asc_eq (leastB_asc h0 _) (hL.part _) fun p => ?_
  rw [leastB_mem h0]
  show _ ↔ p ∈ leastL L
  rw [leastL_mem]
  constructor
  · rintro ⟨h1, h2, h3⟩
    have key : ∀ o ∈ L, o ≠ p → lies3 o p = false := fun o ho ne => by
      cases hl : lies3 o p with
      | false => rfl
      | true =>
        obtain ⟨q, hq, hlq⟩ := lies_short (hL.ok o ho) h1 hl ne
        have := ((widest_mem h0).mp (h3 q hq)).2 o ho
        rw [hlq] at this
        cases this
    refine ⟨?_, key⟩
    have : ¬ ∀ o ∈ L, lies3 o p = false := fun z => h2 ((widest_mem h0).mpr ⟨h1, z⟩)
    simp only [Classical.not_forall, Bool.not_eq_false, exists_prop] at this
    obtain ⟨o, ho, hl⟩ := this
    by_cases e : o = p
    · rw [← e]
      exact ho
    · rw [key o ho e] at hl
      cases hl
  · rintro ⟨h1, h2⟩
    have hp := hL.ok p h1
    refine ⟨hp, fun z => ?_, fun q hq => ?_⟩
    · have := ((widest_mem h0).mp z).2 p h1
      rw [lies_self hp] at this
      cases this
    · refine (widest_mem h0).mpr ⟨short3_ok hp hq, fun o ho => ?_⟩
      cases hl : lies3 o q with
      | false => rfl
      | true =>
        have hlp := lies_trans hl (short_lies hq).1
        by_cases e : o = p
        · have w1 := lies_width hl
          have w2 := (short_lies hq).2
          rw [e] at w1
          omega
        · rw [h2 o ho e] at hlp
          cases hlp
theorem leR_iff {r s : List Int} : (turnedD r).all (hasD (turnedD s)) = true ↔ LeR r s := by
  rw [List.all_eq_true]
  constructor
  · intro h p q z
    have z' : pairD p q ∈ turnedD r := turnedD_mem.mpr ⟨z.1, bef_sub.mpr z.2⟩
    have := turnedD_mem.mp ((hasD_pair (turnedD_pairs s)).mp (h _ z'))
    exact ⟨this.1, bef_sub.mp this.2⟩
  · intro h d m
    obtain ⟨a, b, rfl⟩ := turnedD_pairs r d m
    have := turnedD_mem.mp m
    have := h a b ⟨this.1, bef_sub.mp this.2⟩
    exact (hasD_pair (turnedD_pairs s)).mpr (turnedD_mem.mpr ⟨this.1, bef_sub.mpr this.2⟩)
theorem sh_row {n : Int} {r : List Int} (h : RowOk n r) : Sh (.tuple (intsD r)) 1 1260 := (sh_intsT fun x hx => by
  have := h.mem.mp hx
  have := h.hi
  omega).up (Nat.le_refl _) (by have := h.len; have := h.hi; omega)
theorem eqv_rows (r s : List Int) : PyData.eqv (.tuple (intsD r)) (.tuple (intsD s)) = decide (r = s) := by
  show PyData.eqvAll (intsD r) (intsD s) = _
  exact eqvAll_ints r s
/-- the greatest row below both -/
theorem glb_le {n : Int} {r s t : List Int} (hr : RowOk n r) (hs : RowOk n s) (ht : RowOk n t) (h : IsLub r.reverse s.reverse t.reverse) : LeR t r ∧ LeR t s := by
  have back : ∀ {x y : List Int}, RowOk n x → RowOk n y → LeR x.reverse y.reverse → LeR y x := fun {x y} hx hy l => by
    have z := rev_le (n := n) (r := x.reverse) (s := y.reverse) ⟨(List.reverse_perm x).trans hx.perm, hx.lo, hx.hi⟩ ⟨(List.reverse_perm y).trans hy.perm, hy.lo, hy.hi⟩ l
    rw [List.reverse_reverse, List.reverse_reverse] at z
    exact z
  exact ⟨back hr ht h.left, back hs ht h.right⟩
theorem glb_most {n : Int} {r s t u : List Int} (hr : RowOk n r) (hs : RowOk n s) (ht : RowOk n t) (hu : RowOk n u) (h : IsLub r.reverse s.reverse t.reverse) (h1 : LeR u r) (h2 : LeR u s) : LeR u t := by
  have z := h.least (u := u.reverse) ⟨(List.reverse_perm u).trans hu.perm, hu.lo, hu.hi⟩ (rev_le ⟨hu.perm, hu.lo, hu.hi⟩ hr h1) (rev_le ⟨hu.perm, hu.lo, hu.hi⟩ hs h2)
  have z2 := rev_le (n := n) (r := t.reverse) (s := u.reverse) ⟨(List.reverse_perm t).trans ht.perm, ht.lo, ht.hi⟩ ⟨(List.reverse_perm u).trans hu.perm, hu.lo, hu.hi⟩ z
  rw [List.reverse_reverse, List.reverse_reverse] at z2
  exact z2

/-! least rows above several rows -/
def IsLubs (rows : List (List Int)) (t : List Int) : Prop := ∀ p q, tur t p q ↔ Ch (fun a b => ∃ r ∈ rows, tur r a b) p q
theorem IsLubs.least {n : Int} {rows : List (List Int)} {t u : List Int} (hu : RowOk n u) (h : IsLubs rows t) (h1 : ∀ r ∈ rows, LeR r u) : LeR t u := fun p q z => by
  have := (h p q).mp z
  clear z
  induction this with
  | one h =>
    obtain ⟨r, m, z⟩ := h
    exact h1 r m _ _ z
  | more _ h3 ih =>
    obtain ⟨r, m, z⟩ := h3
    exact tur_trans hu ih (h1 r m _ _ z)
theorem arc_ok {n : Int} {r : List Int} (hr : RowOk n r) {j : Nat} (h : j + 1 < r.length) : ArcOk n (lowAt r j) (highAt r j) (aheadAt r j) := by
  have m1 := hr.mem.mp (List.mem_of_getElem? (getD_get (r := r) (i := j) (by omega)))
  have m2 := hr.mem.mp (List.mem_of_getElem? (getD_get (r := r) (i := j + 1) h))
  have ne := hr.apart h
  refine ⟨by unfold lowAt; omega, by unfold lowAt highAt; omega, by unfold highAt; omega, aheadAt_asc hr j, fun p hp => (aheadAt_mem.mp hp).2⟩
theorem fall_tur {r : List Int} {j : Nat} (h : j + 1 < r.length) (hf : isFall r j = true) : tur r (lowAt r j) (highAt r j) := by
  obtain ⟨e1, e2, lt⟩ := fall_says hf
  rw [e1, e2]
  exact ⟨lt, j, j + 1, by omega, getD_get (by omega), getD_get h⟩
def arcsW (r : List Int) (w : List Nat) : List Arc3 := ((rowsL r w).zip w).map fun p => recT p.1 p.2
theorem goAlong_app (r : List Int) (w v : List Nat) : goAlong r (w ++ v) = goAlong (goAlong r w) v := List.foldl_append
theorem arcsW_app : ∀ (w : List Nat) (r : List Int) (v : List Nat), arcsW r (w ++ v) = arcsW r w ++ arcsW (goAlong r w) v
  | [], _, _ => rfl
  | i :: w, r, v => by
    show recT r i :: arcsW (exch r i) (w ++ v) = recT r i :: (arcsW (exch r i) w ++ arcsW (goAlong (exch r i) w) v)
    rw [arcsW_app w]
theorem recT_same {n : Int} {r : List Int} (hr : RowOk n r) {i : Nat} (h : i + 1 < r.length) : recT (exch r i) i = recT r i := arcT_inj (exch_same hr h)
theorem way_back {n : Int} {c : Arc3 → Bool} : ∀ {w : List Nat} {r : List Int}, RowOk n r → IsWay c r w → goAlong (goAlong r w) w.reverse = r ∧ ∀ p ∈ arcsW (goAlong r w) w.reverse, c p = false
  | [], r, _, _ => ⟨rfl, fun p hp => by cases hp⟩
  | i :: w, r, hr, hw => by
    have h1 := hr.len
    have h2 := hw.1
    obtain ⟨e, b⟩ := way_back (w := w) (r := exch r i) (hr.exch (by omega)) hw.2.2.2
    rw [List.reverse_cons, goAlong_cons, goAlong_app, arcsW_app, e]
    refine ⟨exch_twice h2, fun p hp => ?_⟩
    rcases List.mem_append.mp hp with hp | hp
    · exact b p hp
    · rw [show p = recT (exch r i) i from List.mem_singleton.mp hp, recT_same hr h2]
      exact hw.2.2.1
/-! blind exchanges lead to one row, whichever comes first -/
theorem exch_getD {r : List Int} {i : Nat} (h : i + 1 < r.length) (k : Nat) : (exch r i).getD k 0 = if k = i then r.getD (i + 1) 0 else if k = i + 1 then r.getD i 0 else r.getD k 0 := by
  rw [List.getD_eq_getElem?_getD, exch_get h]
  by_cases a : k = i
  · rw [if_pos a, if_pos a, List.getD_eq_getElem?_getD]
  · rw [if_neg a, if_neg a]
    by_cases b : k = i + 1
    · rw [if_pos b, if_pos b, List.getD_eq_getElem?_getD]
    · rw [if_neg b, if_neg b, List.getD_eq_getElem?_getD]
theorem take_succ_mem {r : List Int} {j : Nat} (h : j < r.length) {x : Int} : x ∈ r.take (j + 1) ↔ x ∈ r.take j ∨ x = r.getD j 0 := by
  rw [take_get, take_get]
  constructor
  · rintro ⟨y, h1, h2⟩
    by_cases c : y = j
    · right
      rw [List.getD_eq_getElem?_getD, ← c, h2]
      rfl
    · exact .inl ⟨y, by omega, h2⟩
  · rintro (⟨y, h1, h2⟩ | rfl)
    · exact ⟨y, by omega, h2⟩
    · exact ⟨j, by omega, getD_get h⟩
theorem take_exch_lo {r : List Int} {i j : Nat} (h : i + 1 < r.length) (hj : j ≤ i) {x : Int} : x ∈ (exch r i).take j ↔ x ∈ r.take j := by
  rw [take_get, take_get]
  constructor <;> rintro ⟨y, h1, h2⟩ <;> refine ⟨y, h1, ?_⟩ <;> rw [exch_get h, if_neg (by omega), if_neg (by omega)] at * <;> exact h2
theorem lies_of {n m : Int} {r s : List Int} (hr : RowOk n r) (hs : RowOk m s) {j k : Nat} (e1 : lowAt s k ≤ lowAt r j) (e2 : highAt r j ≤ highAt s k) (e3 : ∀ x, lowAt r j < x → x < highAt r j → (x ∈ r.take j ↔ x ∈ s.take k)) : lies3 (recT r j) (recT s k) = true := by
  refine lies_iff.mpr ⟨e1, e2, ?_⟩
  refine asc_unique (aheadAt_asc hr j) ((aheadAt_asc hs k).sublist List.filter_sublist) fun x => ?_
  show x ∈ aheadAt r j ↔ x ∈ betw (lowAt r j) (highAt r j) (aheadAt s k)
  rw [aheadAt_mem, betw_mem, aheadAt_mem]
  constructor
  · rintro ⟨a, b, c⟩
    exact ⟨⟨(e3 x b c).mp a, by omega, by omega⟩, b, c⟩
  · rintro ⟨⟨a, _, _⟩, b, c⟩
    exact ⟨(e3 x b c).mpr a, b, c⟩
theorem recT_is {n m : Int} {r s : List Int} (hr : RowOk n r) (hs : RowOk m s) {j k : Nat} (e1 : lowAt r j = lowAt s k) (e2 : highAt r j = highAt s k) (e3 : ∀ x, lowAt r j < x → x < highAt r j → (x ∈ r.take j ↔ x ∈ s.take k)) : recT r j = recT s k := by
  have : aheadAt r j = aheadAt s k := asc_unique (aheadAt_asc hr j) (aheadAt_asc hs k) fun x => by
    rw [aheadAt_mem, aheadAt_mem, ← e1, ← e2]
    constructor
    · rintro ⟨a, b, c⟩
      exact ⟨(e3 x b c).mp a, b, c⟩
    · rintro ⟨a, b, c⟩
      exact ⟨(e3 x b c).mpr a, b, c⟩
  unfold recT
  rw [e1, e2, this]
/-- with an arc, all within it count -/
def BlUp (n : Int) (c : Arc3 → Bool) : Prop := ∀ (r s : List Int) (j k : Nat), RowOk n r → RowOk n s → j + 1 < r.length → k + 1 < s.length → lies3 (recT r j) (recT s k) = true → c (recT r j) = false → c (recT s k) = false
theorem blUp_rule {n : Int} {L : List Arc3} (h : RuleOk n L) : BlUp n (inL L) := fun r s j k hr hs hj hk hl hb => by
  unfold inL at *
  rw [decide_eq_false_iff_not] at *
  exact fun hm => hb (rule_lies h (o := recT r j) (arc_ok hr hj) _ _ (Nat.le_refl _) hm hl)
/-- a blind fall (f) or rise (not f) -/
structure Bl (c : Arc3 → Bool) (f : Bool) (r : List Int) (i : Nat) : Prop where
  lt : i + 1 < r.length
  fall : isFall r i = f
  blind : c (recT r i) = false
theorem bl_iff {c : Arc3 → Bool} {f : Bool} {r : List Int} {i : Nat} : i ∈ blindL c f r ↔ Bl c f r i := by
  unfold blindL fallsL
  rw [List.mem_filter, List.mem_filter, List.mem_range, beq_iff_eq, Bool.not_eq_true']
  exact ⟨fun ⟨⟨a, b⟩, d⟩ => ⟨by omega, b, d⟩, fun ⟨a, b, d⟩ => ⟨⟨by omega, b⟩, d⟩⟩
def IsWayF (c : Arc3 → Bool) (f : Bool) : List Int → List Nat → Prop
  | _, [] => True
  | r, i :: w => Bl c f r i ∧ IsWayF c f (exch r i) w
theorem wayF_row {n : Int} {c : Arc3 → Bool} {f : Bool} : ∀ {w : List Nat} {r : List Int}, RowOk n r → IsWayF c f r w → RowOk n (goAlong r w)
  | [], _, h, _ => h
  | i :: w, r, h, hw => wayF_row (w := w) (h.exch (by have := h.len; have := hw.1.lt; omega)) hw.2
theorem wayF_app {c : Arc3 → Bool} {f : Bool} : ∀ {w v : List Nat} {r : List Int}, IsWayF c f r w → IsWayF c f (goAlong r w) v → IsWayF c f r (w ++ v)
  | [], _, _, _, h => h
  | _ :: _, _, _, h1, h => ⟨h1.1, wayF_app h1.2 h⟩
noncomputable def meas (n : Int) (f : Bool) (r : List Int) : Nat := if f then inv n r else (allP n).length - inv n r
theorem inv_most {n : Int} {r : List Int} : inv n r ≤ (allP n).length := List.countP_le_length
theorem meas_step {n : Int} {f : Bool} {r : List Int} (hr : RowOk n r) {i : Nat} (h : i + 1 < r.length) (hf : isFall r i = f) : meas n f (exch r i) + 1 = meas n f r := by
  cases f with
  | true => exact inv_down hr h (isFall_lt hf)
  | false =>
    have hl := hr.len
    have e := inv_down (hr.exch (i := i) (by omega)) (i := i) (by rw [exch_len h]; exact h) (isFall_lt (by rw [exch_fall hr h, hf]; rfl))
    rw [exch_twice h] at e
    have := inv_most (n := n) (r := exch r i)
    show (allP n).length - inv n (exch r i) + 1 = (allP n).length - inv n r
    omega
/-- a row of which no blind fall (rise) is left -/
def IsEnd (c : Arc3 → Bool) (f : Bool) (r t : List Int) : Prop := ∃ w, IsWayF c f r w ∧ goAlong r w = t ∧ blindL c f t = []
theorem end_ex {n : Int} {c : Arc3 → Bool} {f : Bool} : ∀ {m : Nat} {r : List Int}, RowOk n r → meas n f r ≤ m → ∃ t, IsEnd c f r t
  | m, r, hr, hm => by
    cases hb : blindL c f r with
    | nil => exact ⟨r, [], trivial, rfl, hb⟩
    | cons i t =>
      have hi : Bl c f r i := bl_iff.mp (by rw [hb]; simp)
      have e := meas_step hr hi.lt hi.fall
      have h3 := hr.len
      have h4 := hi.lt
      cases m with
      | zero => omega
      | succ m =>
        obtain ⟨t, w, h1, h2, h3⟩ := end_ex (n := n) (c := c) (f := f) (m := m) (r := exch r i) (hr.exch (i := i) (by omega)) (by omega)
        exact ⟨t, i :: w, ⟨hi, h1⟩, h2, h3⟩
theorem exch_comm {r : List Int} {i j : Nat} (hj : j + 1 < r.length) (far : i + 1 < j) : exch (exch r i) j = exch (exch r j) i := by
  have hi : i + 1 < r.length := by omega
  refine List.ext_getElem? fun k => ?_
  rw [exch_get (by rw [exch_len hi]; omega), exch_get (r := exch r j) (by rw [exch_len hj]; omega), exch_get hi, exch_get hi, exch_get hi, exch_get hj, exch_get hj, exch_get hj]
  repeat' split
  all_goals first | rfl | omega | (congr 1; omega)
theorem exch_three {r : List Int} {i : Nat} (h : i + 2 < r.length) : exch (exch (exch r i) (i + 1)) i = exch (exch (exch r (i + 1)) i) (i + 1) := by
  have h0 : i + 1 < r.length := by omega
  have h1 : (i + 1) + 1 < r.length := h
  refine List.ext_getElem? fun k => ?_
  rw [exch_get (r := exch (exch r i) (i + 1)) (by rw [exch_len (by rw [exch_len h0]; omega), exch_len h0]; omega), exch_get (r := exch (exch r (i + 1)) i) (by rw [exch_len (by rw [exch_len h1]; omega), exch_len h1]; omega)]
  simp only [exch_get (r := exch r i) (i := i + 1) (by rw [exch_len h0]; omega), exch_get (r := exch r (i + 1)) (i := i) (by rw [exch_len h1]; omega), exch_get h0, exch_get h1]
  by_cases a : k = i
  · subst a
    simp [show ¬ k + 1 + 1 = k by omega, show ¬ k = k + 1 + 1 by omega]
  · by_cases b : k = i + 1
    · subst b
      simp [show ¬ i + 1 + 1 = i by omega, show ¬ i = i + 1 + 1 by omega]
    · by_cases d : k = i + 1 + 1
      · subst d
        simp [show ¬ i + 1 + 1 = i by omega, show ¬ i = i + 1 + 1 by omega]
      · simp [a, b, d]

theorem isFall_exch {r : List Int} {i : Nat} (h : i + 1 < r.length) (k : Nat) : isFall (exch r i) k = decide ((if k + 1 = i then r.getD (i + 1) 0 else if k + 1 = i + 1 then r.getD i 0 else r.getD (k + 1) 0) < (if k = i then r.getD (i + 1) 0 else if k = i + 1 then r.getD i 0 else r.getD k 0)) := by
  unfold isFall
  rw [exch_getD h, exch_getD h]
/-- an exchange two or more away -/
theorem bl_far {n : Int} {c : Arc3 → Bool} {f : Bool} {r : List Int} {i j : Nat} (hr : RowOk n r) (hi : i + 1 < r.length) (hb : Bl c f r j) (far : j + 1 < i ∨ i + 1 < j) : Bl c f (exch r i) j := by
  refine ⟨by rw [exch_len hi]; exact hb.lt, ?_, ?_⟩
  · rw [isFall_exch hi, ← hb.fall]
    rw [if_neg (by omega), if_neg (by omega), if_neg (by omega), if_neg (by omega)]
    rfl
  · rw [show recT (exch r i) j = recT r j from arcT_inj (exch_far hr hi hb.lt far)]
    exact hb.blind
theorem fall_far {r : List Int} {i j : Nat} (hi : i + 1 < r.length) (far : j + 1 < i ∨ i + 1 < j) : isFall (exch r i) j = isFall r j := by
  rw [isFall_exch hi, if_neg (by omega), if_neg (by omega), if_neg (by omega), if_neg (by omega)]
  rfl
/-- three numbers that go one way: what the exchanges of the two steps have for arcs -/
structure Three (f : Bool) (r : List Int) (i : Nat) : Prop where
  lt : i + 2 < r.length
  one : isFall r i = f
  two : isFall r (i + 1) = f
theorem Three.vals {n : Int} {f : Bool} {r : List Int} {i : Nat} (h : Three f r i) (hr : RowOk n r) : (f = true ∧ r.getD (i + 2) 0 < r.getD (i + 1) 0 ∧ r.getD (i + 1) 0 < r.getD i 0) ∨ (f = false ∧ r.getD i 0 < r.getD (i + 1) 0 ∧ r.getD (i + 1) 0 < r.getD (i + 2) 0) := by
  have h1 := h.one
  have h2 := h.two
  have := h.lt
  have n1 := hr.apart (i := i) (by omega)
  have n2 := hr.apart (i := i + 1) (by omega)
  unfold isFall at h1 h2
  cases f with
  | true =>
    have a1 := of_decide_eq_true h1
    have a2 := of_decide_eq_true h2
    exact .inl ⟨rfl, a2, a1⟩
  | false =>
    have a1 := of_decide_eq_false h1
    have a2 := of_decide_eq_false h2
    refine .inr ⟨rfl, by omega, ?_⟩
    have : r.getD (i + 1 + 1) 0 = r.getD (i + 2) 0 := rfl
    omega
section
variable {n : Int} {f : Bool} {r : List Int} {i : Nat} (h : Three f r i) (hr : RowOk n r)
include h hr
theorem Three.r1 : RowOk n (exch r i) := hr.exch (by have := hr.len; have := h.lt; omega)
theorem Three.s1 : RowOk n (exch r (i + 1)) := hr.exch (by have := hr.len; have := h.lt; omega)
theorem Three.r1len : (exch r i).length = r.length := exch_len (by have := h.lt; omega)
theorem Three.s1len : (exch r (i + 1)).length = r.length := exch_len (by have := h.lt; omega)
theorem Three.r2 : RowOk n (exch (exch r i) (i + 1)) := (h.r1 hr).exch (by have := hr.len; have := h.lt; omega)
theorem Three.s2 : RowOk n (exch (exch r (i + 1)) i) := (h.s1 hr).exch (by have := hr.len; have := h.lt; omega)
theorem Three.r2len : (exch (exch r i) (i + 1)).length = r.length := by
  rw [exch_len (by rw [h.r1len hr]; have := h.lt; omega), h.r1len hr]
theorem Three.s2len : (exch (exch r (i + 1)) i).length = r.length := by
  rw [exch_len (by rw [h.s1len hr]; have := h.lt; omega), h.s1len hr]
theorem Three.r1v : (exch r i).getD i 0 = r.getD (i + 1) 0 ∧ (exch r i).getD (i + 1) 0 = r.getD i 0 ∧ (exch r i).getD (i + 2) 0 = r.getD (i + 2) 0 := by
  have := h.lt
  refine ⟨?_, ?_, ?_⟩ <;> rw [exch_getD (by omega)]
  · rw [if_pos rfl]
  · rw [if_neg (by omega), if_pos rfl]
  · rw [if_neg (by omega), if_neg (by omega)]
theorem Three.s1v : (exch r (i + 1)).getD i 0 = r.getD i 0 ∧ (exch r (i + 1)).getD (i + 1) 0 = r.getD (i + 2) 0 ∧ (exch r (i + 1)).getD (i + 2) 0 = r.getD (i + 1) 0 := by
  have := h.lt
  refine ⟨?_, ?_, ?_⟩ <;> rw [exch_getD (by omega)]
  · rw [if_neg (by omega), if_neg (by omega)]
  · rw [if_pos rfl]
  · rw [if_neg (by omega), if_pos rfl]
theorem Three.r2v : (exch (exch r i) (i + 1)).getD i 0 = r.getD (i + 1) 0 ∧ (exch (exch r i) (i + 1)).getD (i + 1) 0 = r.getD (i + 2) 0 ∧ (exch (exch r i) (i + 1)).getD (i + 2) 0 = r.getD i 0 := by
  have := h.lt
  have hl := h.r1len hr
  obtain ⟨v0, v1, v2⟩ := h.r1v hr
  refine ⟨?_, ?_, ?_⟩ <;> rw [exch_getD (by omega)]
  · rw [if_neg (by omega), if_neg (by omega), v0]
  · rw [if_pos rfl, v2]
  · rw [if_neg (by omega), if_pos rfl, v1]
theorem Three.s2v : (exch (exch r (i + 1)) i).getD i 0 = r.getD (i + 2) 0 ∧ (exch (exch r (i + 1)) i).getD (i + 1) 0 = r.getD i 0 ∧ (exch (exch r (i + 1)) i).getD (i + 2) 0 = r.getD (i + 1) 0 := by
  have := h.lt
  have hl := h.s1len hr
  obtain ⟨v0, v1, v2⟩ := h.s1v hr
  refine ⟨?_, ?_, ?_⟩ <;> rw [exch_getD (by omega)]
  · rw [if_pos rfl, v1]
  · rw [if_neg (by omega), if_pos rfl, v0]
  · rw [if_neg (by omega), if_neg (by omega), v2]
theorem Three.falls : isFall (exch r i) (i + 1) = f ∧ isFall (exch (exch r i) (i + 1)) i = f ∧ isFall (exch r (i + 1)) i = f ∧ isFall (exch (exch r (i + 1)) i) (i + 1) = f := by
  obtain ⟨a0, a1, a2⟩ := h.r1v hr
  obtain ⟨b0, b1, b2⟩ := h.r2v hr
  obtain ⟨c0, c1, c2⟩ := h.s1v hr
  obtain ⟨d0, d1, d2⟩ := h.s2v hr
  unfold isFall
  show decide ((exch r i).getD (i + 2) 0 < _) = f ∧ _ ∧ _ ∧ decide ((exch (exch r (i + 1)) i).getD (i + 2) 0 < _) = f
  rw [a1, a2, b0, b1, c0, c1, d1, d2]
  rcases h.vals hr with ⟨rfl, h1, h2⟩ | ⟨rfl, h1, h2⟩
  · refine ⟨decide_eq_true ?_, decide_eq_true ?_, decide_eq_true ?_, decide_eq_true ?_⟩ <;> omega
  · refine ⟨decide_eq_false ?_, decide_eq_false ?_, decide_eq_false ?_, decide_eq_false ?_⟩ <;> omega
theorem Three.lies1 : lies3 (recT r i) (recT (exch r i) (i + 1)) = true := by
  have hl := h.lt
  obtain ⟨a0, a1, a2⟩ := h.r1v hr
  have lo : lowAt (exch r i) (i + 1) = min (r.getD i 0) (r.getD (i + 2) 0) := by
    show min ((exch r i).getD (i + 1) 0) ((exch r i).getD (i + 2) 0) = _
    rw [a1, a2]
  have hi : highAt (exch r i) (i + 1) = max (r.getD i 0) (r.getD (i + 2) 0) := by
    show max ((exch r i).getD (i + 1) 0) ((exch r i).getD (i + 2) 0) = _
    rw [a1, a2]
  have hv := h.vals hr
  refine lies_of hr (h.r1 hr) ?_ ?_ fun x h1 h2 => ?_
  · rw [lo]
    unfold lowAt
    omega
  · rw [hi]
    unfold highAt
    omega
  · rw [take_succ_mem (by rw [h.r1len hr]; omega), take_exch_lo (by omega) (Nat.le_refl _), a0]
    constructor
    · exact .inl
    · rintro (z | rfl)
      · exact z
      · unfold lowAt highAt at *
        omega
theorem Three.lies2 : lies3 (recT r (i + 1)) (recT (exch r (i + 1)) i) = true := by
  have hl := h.lt
  obtain ⟨a0, a1, a2⟩ := h.s1v hr
  have lo : lowAt (exch r (i + 1)) i = min (r.getD i 0) (r.getD (i + 2) 0) := by
    unfold lowAt
    rw [a0, a1]
  have hi : highAt (exch r (i + 1)) i = max (r.getD i 0) (r.getD (i + 2) 0) := by
    unfold highAt
    rw [a0, a1]
  have hv := h.vals hr
  have lo2 : lowAt r (i + 1) = min (r.getD (i + 1) 0) (r.getD (i + 2) 0) := rfl
  have hi2 : highAt r (i + 1) = max (r.getD (i + 1) 0) (r.getD (i + 2) 0) := rfl
  refine lies_of hr (h.s1 hr) ?_ ?_ fun x h1 h2 => ?_
  · rw [lo, lo2]
    omega
  · rw [hi, hi2]
    omega
  · rw [take_succ_mem (by omega), take_exch_lo (by omega) (by omega)]
    constructor
    · rintro (z | rfl)
      · exact z
      · omega
    · exact .inl
theorem Three.same1 : recT (exch (exch r i) (i + 1)) i = recT r (i + 1) := by
  have hl := h.lt
  obtain ⟨a0, a1, a2⟩ := h.r2v hr
  have hv := h.vals hr
  have lo2 : lowAt r (i + 1) = min (r.getD (i + 1) 0) (r.getD (i + 2) 0) := rfl
  have hi2 : highAt r (i + 1) = max (r.getD (i + 1) 0) (r.getD (i + 2) 0) := rfl
  have lo : lowAt (exch (exch r i) (i + 1)) i = min (r.getD (i + 1) 0) (r.getD (i + 2) 0) := by
    unfold lowAt
    rw [a0, a1]
  have hi : highAt (exch (exch r i) (i + 1)) i = max (r.getD (i + 1) 0) (r.getD (i + 2) 0) := by
    unfold highAt
    rw [a0, a1]
  refine recT_is (h.r2 hr) hr (by rw [lo, lo2]) (by rw [hi, hi2]) fun x h1 h2 => ?_
  rw [take_exch_lo (by rw [h.r1len hr]; omega) (by omega), take_exch_lo (by omega) (Nat.le_refl _), take_succ_mem (by omega)]
  constructor
  · exact .inl
  · rintro (z | rfl)
    · exact z
    · omega
theorem Three.same2 : recT (exch (exch r (i + 1)) i) (i + 1) = recT r i := by
  have hl := h.lt
  obtain ⟨a0, a1, a2⟩ := h.s2v hr
  have hv := h.vals hr
  have lo : lowAt (exch (exch r (i + 1)) i) (i + 1) = min (r.getD i 0) (r.getD (i + 1) 0) := by
    show min ((exch (exch r (i + 1)) i).getD (i + 1) 0) ((exch (exch r (i + 1)) i).getD (i + 2) 0) = _
    rw [a1, a2]
  have hi : highAt (exch (exch r (i + 1)) i) (i + 1) = max (r.getD i 0) (r.getD (i + 1) 0) := by
    show max ((exch (exch r (i + 1)) i).getD (i + 1) 0) ((exch (exch r (i + 1)) i).getD (i + 2) 0) = _
    rw [a1, a2]
  refine recT_is (h.s2 hr) hr (by rw [lo]; rfl) (by rw [hi]; rfl) fun x h1 h2 => ?_
  rw [take_succ_mem (by rw [h.s2len hr]; omega), a0, take_exch_lo (by rw [h.s1len hr]; omega) (Nat.le_refl _), take_exch_lo (by omega) (by omega)]
  constructor
  · rintro (z | rfl)
    · exact z
    · omega
  · exact .inl
/-- both ways round -/
theorem Three.way1 {c : Arc3 → Bool} (cl : BlUp n c) (b1 : c (recT r i) = false) (b2 : c (recT r (i + 1)) = false) : IsWayF c f (exch r i) [i + 1, i] := by
  have hl := h.lt
  obtain ⟨f1, f2, f3, f4⟩ := h.falls hr
  have l1 := h.r1len hr
  have l2 := h.r2len hr
  refine ⟨⟨by omega, f1, cl r _ i (i + 1) hr (h.r1 hr) (by omega) (by omega) (h.lies1 hr) b1⟩, ⟨by omega, f2, ?_⟩, trivial⟩
  rw [h.same1 hr]
  exact b2
theorem Three.way2 {c : Arc3 → Bool} (cl : BlUp n c) (b1 : c (recT r i) = false) (b2 : c (recT r (i + 1)) = false) : IsWayF c f (exch r (i + 1)) [i, i + 1] := by
  have hl := h.lt
  obtain ⟨f1, f2, f3, f4⟩ := h.falls hr
  have l1 := h.s1len hr
  have l2 := h.s2len hr
  refine ⟨⟨by omega, f3, cl r _ (i + 1) i hr (h.s1 hr) (by omega) (by omega) (h.lies2 hr) b2⟩, ⟨by omega, f4, ?_⟩, trivial⟩
  rw [h.same2 hr]
  exact b1
end
theorem meet_two {n : Int} {c : Arc3 → Bool} {f : Bool} {r : List Int} {i j : Nat} (hr : RowOk n r) (cl : BlUp n c) (hi : Bl c f r i) (hj : Bl c f r j) (hij : i < j) : ∃ w v, IsWayF c f (exch r i) w ∧ IsWayF c f (exch r j) v ∧ goAlong (exch r i) w = goAlong (exch r j) v := by
  by_cases e : j = i + 1
  · subst e
    have h : Three f r i := ⟨hj.lt, hi.fall, hj.fall⟩
    exact ⟨_, _, h.way1 hr cl hi.blind hj.blind, h.way2 hr cl hi.blind hj.blind, exch_three hj.lt⟩
  · exact ⟨[j], [i], ⟨bl_far hr hi.lt hj (by omega), trivial⟩, ⟨bl_far hr hj.lt hi (by omega), trivial⟩, exch_comm hj.lt (by omega)⟩
theorem end_self {c : Arc3 → Bool} {f : Bool} {r t : List Int} (h : IsEnd c f r t) (hb : blindL c f r = []) : t = r := by
  obtain ⟨w, h1, h2, h3⟩ := h
  cases w with
  | nil => exact h2.symm
  | cons i w =>
    have := bl_iff.mpr h1.1
    rw [hb] at this
    cases this
theorem end_step {c : Arc3 → Bool} {f : Bool} {r t : List Int} {i : Nat} (hb : Bl c f r i) (h : IsEnd c f (exch r i) t) : IsEnd c f r t := by
  obtain ⟨w, h1, h2, h3⟩ := h
  exact ⟨i :: w, ⟨hb, h1⟩, h2, h3⟩
theorem end_way {c : Arc3 → Bool} {f : Bool} : ∀ {w : List Nat} {r t : List Int}, IsWayF c f r w → IsEnd c f (goAlong r w) t → IsEnd c f r t
  | [], _, _, _, h => h
  | _ :: _, _, _, hw, h => end_step hw.1 (end_way hw.2 h)
/-- there is just one -/
theorem end_one {n : Int} {c : Arc3 → Bool} {f : Bool} (cl : BlUp n c) : ∀ {m : Nat} {r t u : List Int}, RowOk n r → meas n f r ≤ m → IsEnd c f r t → IsEnd c f r u → t = u
  | m, r, t, u, hr, hm, ⟨w, h1, h2, h3⟩, ⟨v, k1, k2, k3⟩ => by
    cases w with
    | nil =>
      have e : t = r := h2.symm
      subst e
      exact (end_self ⟨v, k1, k2, k3⟩ h3).symm
    | cons i w =>
      cases v with
      | nil =>
        have e : u = r := k2.symm
        subst e
        exact end_self ⟨i :: w, h1, h2, h3⟩ k3
      | cons j v =>
        have hi := h1.1
        have hj := k1.1
        have ei := meas_step hr hi.lt hi.fall
        have ej := meas_step hr hj.lt hj.fall
        have hl := hr.len
        have li := hi.lt
        have lj := hj.lt
        have ri : RowOk n (exch r i) := hr.exch (by omega)
        have rj : RowOk n (exch r j) := hr.exch (by omega)
        have ti : IsEnd c f (exch r i) t := ⟨w, h1.2, h2, h3⟩
        have uj : IsEnd c f (exch r j) u := ⟨v, k1.2, k2, k3⟩
        cases m with
        | zero => omega
        | succ m =>
          by_cases e : i = j
          · subst e
            exact end_one cl (m := m) ri (by omega) ti uj
          · have key : ∃ w' v', IsWayF c f (exch r i) w' ∧ IsWayF c f (exch r j) v' ∧ goAlong (exch r i) w' = goAlong (exch r j) v' := by
              rcases Nat.lt_or_gt_of_ne e with z | z
              · exact meet_two hr cl hi hj z
              · obtain ⟨a, b, p1, p2, p3⟩ := meet_two hr cl hj hi z
                exact ⟨b, a, p2, p1, p3.symm⟩
            obtain ⟨w', v', p1, p2, p3⟩ := key
            obtain ⟨z, hz⟩ := end_ex (n := n) (c := c) (f := f) (m := _) (wayF_row ri p1) (Nat.le_refl _)
            have e1 := end_one cl (m := m) ri (by omega) ti (end_way p1 hz)
            have e2 := end_one cl (m := m) rj (by omega) uj (end_way p2 (by rw [← p3]; exact hz))
            rw [e1, e2]

/-! the way down keeps the order -/
def LeF (f : Bool) (r s : List Int) : Prop := if f then LeR r s else LeR s r
theorem LeF.refl {f : Bool} {r : List Int} : LeF f r r := by cases f <;> exact LeR.refl r
theorem LeF.trans {f : Bool} {r s t : List Int} (h : LeF f r s) (k : LeF f s t) : LeF f r t := by
  cases f with
  | true => exact LeR.trans (r := r) (s := s) (t := t) h k
  | false => exact LeR.trans (r := t) (s := s) (t := r) k h
theorem exch_up {n : Int} {r : List Int} (hr : RowOk n r) {i : Nat} (h : i + 1 < r.length) (hf : r.getD i 0 < r.getD (i + 1) 0) (p q : Int) : tur r p q ↔ tur (exch r i) p q ∧ ¬(p = r.getD i 0 ∧ q = r.getD (i + 1) 0) := by
  have hl := hr.len
  have e := exch_down (hr.exch (i := i) (by omega)) (i := i) (by rw [exch_len h]; exact h) (by rw [exch_getD h, exch_getD h, if_neg (by omega), if_pos rfl, if_pos rfl]; exact hf) p q
  rw [exch_twice h, exch_getD h, exch_getD h, if_neg (by omega), if_pos rfl, if_pos rfl] at e
  exact e
theorem exch_leF {n : Int} {f : Bool} {r : List Int} (hr : RowOk n r) {i : Nat} (h : i + 1 < r.length) (hf : isFall r i = f) : LeF f (exch r i) r := by
  have ne := hr.apart h
  cases f with
  | true => exact fun p q z => ((exch_down hr h (isFall_lt hf) p q).mp z).1
  | false =>
    have : r.getD i 0 < r.getD (i + 1) 0 := by
      have := of_decide_eq_false hf
      omega
    exact fun p q z => ((exch_up hr h this p q).mp z).1
theorem way_leF {n : Int} {c : Arc3 → Bool} {f : Bool} : ∀ {w : List Nat} {r : List Int}, RowOk n r → IsWayF c f r w → LeF f (goAlong r w) r
  | [], _, _, _ => LeF.refl
  | i :: w, r, hr, hw => by
    have hl := hr.len
    have li := hw.1.lt
    exact (way_leF (w := w) (r := exch r i) (hr.exch (by omega)) hw.2).trans (exch_leF hr li hw.1.fall)
/-- rows whose neighbours stand in the same order are one -/
theorem same_order {n : Int} {r s : List Int} (hr : RowOk n r) (hs : RowOk n s) (h : ∀ k, k + 1 < s.length → bef r (s.getD k 0) (s.getD (k + 1) 0)) : r = s := by
  have key : ∀ (d x : Nat), x + d + 1 < s.length → bef r (s.getD x 0) (s.getD (x + d + 1) 0) := by
    intro d
    induction d with
    | zero => exact fun x hx => h x hx
    | succ d ih => exact fun x hx => bef_trans hr.nodup (ih x (by omega)) (h (x + d + 1) (by omega))
  have all : ∀ u v, bef s u v → bef r u v := by
    rintro u v ⟨x, y, hxy, hu, hv⟩
    have ly := (List.getElem?_eq_some_iff.mp hv).1
    have := key (y - x - 1) x (by omega)
    rw [show x + (y - x - 1) + 1 = y by omega] at this
    rw [List.getD_eq_getElem?_getD, List.getD_eq_getElem?_getD, hu, hv] at this
    exact this
  refine tur_unique hr hs fun p q => ⟨fun z => ⟨z.1, ?_⟩, fun z => ⟨z.1, all _ _ z.2⟩⟩
  obtain ⟨m1, m2⟩ := bef_mem z.2
  have ne : q ≠ p := by have := z.1; omega
  rcases bef_tri (hs.mem.mpr (hr.mem.mp m1)) (hs.mem.mpr (hr.mem.mp m2)) ne with y | y
  · exact y
  · exact (bef_anti hr.nodup z.2 (all _ _ y)).elim
/-- between a row and another one below it there is a step -/
theorem step_between {n : Int} {f : Bool} {r s : List Int} (hr : RowOk n r) (hs : RowOk n s) (h : LeF f r s) (ne : r ≠ s) : ∃ k, k + 1 < s.length ∧ isFall s k = f ∧ LeF f r (exch s k) := by
  have : ¬ ∀ k, k + 1 < s.length → bef r (s.getD k 0) (s.getD (k + 1) 0) := fun z => ne (same_order hr hs z)
  simp only [Classical.not_forall, exists_prop] at this
  obtain ⟨k, hk, hb⟩ := this
  have g0 := getD_get (r := s) (i := k) (by omega)
  have g1 := getD_get (r := s) (i := k + 1) hk
  have m0 := hr.mem.mpr (hs.mem.mp (List.mem_of_getElem? g0))
  have m1 := hr.mem.mpr (hs.mem.mp (List.mem_of_getElem? g1))
  have nk := hs.apart hk
  have hb2 : bef r (s.getD (k + 1) 0) (s.getD k 0) := (bef_tri m0 m1 nk).elim (fun z => (hb z).elim) id
  have hb3 : bef s (s.getD k 0) (s.getD (k + 1) 0) := ⟨k, k + 1, by omega, g0, g1⟩
  refine ⟨k, hk, ?_⟩
  cases f with
  | true =>
    have lt : s.getD (k + 1) 0 < s.getD k 0 := by
      rcases Int.lt_or_gt_of_ne nk with z | z
      · exact (bef_anti hs.nodup (h _ _ ⟨z, hb2⟩).2 hb3).elim
      · exact z
    refine ⟨decide_eq_true lt, fun p q z => (exch_down hs hk lt p q).mpr ⟨h p q z, ?_⟩⟩
    rintro ⟨rfl, rfl⟩
    exact bef_anti hr.nodup hb2 z.2
  | false =>
    have lt : s.getD k 0 < s.getD (k + 1) 0 := by
      rcases Int.lt_or_gt_of_ne nk with z | z
      · exact z
      · exact (bef_anti hr.nodup hb2 (h _ _ ⟨z, hb3⟩).2).elim
    refine ⟨decide_eq_false (by omega), fun p q z => ?_⟩
    by_cases e : p = s.getD k 0 ∧ q = s.getD (k + 1) 0
    · rw [e.1, e.2]
      exact ⟨lt, hb2⟩
    · exact h p q ((exch_up hs hk lt p q).mpr ⟨z, e⟩)
theorem end_leF {n : Int} {c : Arc3 → Bool} {f : Bool} {r t : List Int} (hr : RowOk n r) (h : IsEnd c f r t) : LeF f t r := by
  obtain ⟨w, h1, h2, _⟩ := h
  rw [← h2]
  exact way_leF hr h1
theorem end_row {n : Int} {c : Arc3 → Bool} {f : Bool} {r t : List Int} (hr : RowOk n r) (h : IsEnd c f r t) : RowOk n t := by
  obtain ⟨w, h1, h2, _⟩ := h
  rw [← h2]
  exact wayF_row hr h1
/-- what one step leads to has the same end -/
theorem end_bl {n : Int} {c : Arc3 → Bool} {f : Bool} (cl : BlUp n c) {r t u : List Int} (hr : RowOk n r) {i : Nat} (hb : Bl c f r i) (h : IsEnd c f (exch r i) t) (k : IsEnd c f r u) : t = u :=
  end_one cl (m := _) hr (Nat.le_refl _) (end_step hb h) k
/-- a step that counts or not: the ends keep the order -/
theorem cover_end {n : Int} {c : Arc3 → Bool} {f : Bool} (cl : BlUp n c) : ∀ {m : Nat} {s t u : List Int} {k : Nat}, RowOk n s → meas n f s ≤ m → k + 1 < s.length → isFall s k = f → IsEnd c f (exch s k) t → IsEnd c f s u → LeF f t u
  | m, s, t, u, k, hs, hm, hk, hf, ht, hu => by
    have hl := hs.len
    have rk : RowOk n (exch s k) := hs.exch (by omega)
    have lk : (exch s k).length = s.length := exch_len hk
    have ek := meas_step hs hk hf
    by_cases hb : c (recT s k) = false
    · rw [end_bl cl hs ⟨hk, hf, hb⟩ ht hu]
      exact LeF.refl
    obtain ⟨v, h1, h2, h3⟩ := hu
    cases v with
    | nil =>
      rw [show u = s from h2.symm]
      exact (end_leF rk ht).trans (exch_leF hs hk hf)
    | cons j v =>
      have hj := h1.1
      have lj := hj.lt
      have rj : RowOk n (exch s j) := hs.exch (by omega)
      have lj2 : (exch s j).length = s.length := exch_len lj
      have ej := meas_step hs lj hj.fall
      have uj : IsEnd c f (exch s j) u := ⟨v, h1.2, h2, h3⟩
      have ne : j ≠ k := fun e => hb (by rw [← e]; exact hj.blind)
      cases m with
      | zero => omega
      | succ m =>
        rcases Nat.lt_or_gt_of_ne ne with z | z
        · by_cases e : k = j + 1
          · subst e
            have h : Three f s j := ⟨hk, hj.fall, hf⟩
            obtain ⟨f1, f2, f3, f4⟩ := h.falls hs
            have b1 := cl s _ j (j + 1) hs (h.r1 hs) (by omega) (by rw [lj2]; omega) (h.lies1 hs) hj.blind
            have bl1 : Bl c f (exch s j) (j + 1) := ⟨by rw [lj2]; omega, f1, b1⟩
            -- u is the end of exch (exch s j) (j + 1)
            obtain ⟨u2, hu2⟩ := end_ex (n := n) (c := c) (f := f) (m := _) (h.r2 hs) (Nat.le_refl _)
            have e1 := end_bl cl rj bl1 hu2 uj
            subst e1
            have e2 := meas_step rj (i := j + 1) (by rw [lj2]; omega) f1
            -- t is the end of the third row
            have ws : IsWayF c f (exch s (j + 1)) [j, j + 1] := by
              refine ⟨⟨by rw [lk]; omega, f3, ?_⟩, ⟨by rw [h.s2len hs]; omega, f4, ?_⟩, trivial⟩
              · refine cl (exch (exch s (j + 1)) j) _ (j + 1) j (h.s2 hs) (h.s1 hs) (by rw [h.s2len hs]; omega) (by rw [lk]; omega) ?_ ?_
                · have l2 : lies3 (recT s j) (recT (exch s (j + 1)) j) = true := by
                    obtain ⟨a0, a1, a2⟩ := h.s1v hs
                    have hv := h.vals hs
                    have lo : lowAt (exch s (j + 1)) j = min (s.getD j 0) (s.getD (j + 2) 0) := by
                      unfold lowAt
                      rw [a0, a1]
                    have hi : highAt (exch s (j + 1)) j = max (s.getD j 0) (s.getD (j + 2) 0) := by
                      unfold highAt
                      rw [a0, a1]
                    have lo2 : lowAt s j = min (s.getD j 0) (s.getD (j + 1) 0) := rfl
                    have hi2 : highAt s j = max (s.getD j 0) (s.getD (j + 1) 0) := rfl
                    refine lies_of hs (h.s1 hs) (by rw [lo, lo2]; omega) (by rw [hi, hi2]; omega) fun x _ _ => ?_
                    rw [take_exch_lo hk (by omega)]
                  rw [h.same2 hs]
                  exact l2
                · rw [h.same2 hs]
                  exact hj.blind
              · rw [h.same2 hs]
                exact hj.blind
            obtain ⟨t2, ht2⟩ := end_ex (n := n) (c := c) (f := f) (m := _) (wayF_row rk ws) (Nat.le_refl _)
            have e3 := end_one cl (m := _) rk (Nat.le_refl _) (end_way ws ht2) ht
            subst e3
            refine cover_end cl (m := m) (k := j) (h.r2 hs) (by omega) (by rw [h.r2len hs]; omega) f2 ?_ hu2
            have e4 : goAlong (exch s (j + 1)) [j, j + 1] = exch (exch (exch s j) (j + 1)) j := (exch_three hk).symm
            rw [e4] at ht2
            exact ht2
          · have bj : Bl c f (exch s k) j := bl_far hs hk hj (by omega)
            have rkj : RowOk n (exch (exch s k) j) := rk.exch (by have := rk.len; omega)
            obtain ⟨t2, ht2⟩ := end_ex (n := n) (c := c) (f := f) (m := _) rkj (Nat.le_refl _)
            have e3 := end_bl cl rk bj ht2 ht
            subst e3
            rw [← exch_comm hk (by omega)] at ht2
            exact cover_end cl (m := m) (k := k) rj (by omega) (by rw [lj2]; exact hk) (by rw [fall_far lj (by omega)]; exact hf) ht2 uj
        · by_cases e : j = k + 1
          · subst e
            have h : Three f s k := ⟨lj, hf, hj.fall⟩
            obtain ⟨f1, f2, f3, f4⟩ := h.falls hs
            have b1 := cl s _ (k + 1) k hs (h.s1 hs) (by omega) (by rw [lj2]; omega) (h.lies2 hs) hj.blind
            have bl1 : Bl c f (exch s (k + 1)) k := ⟨by rw [lj2]; omega, f3, b1⟩
            obtain ⟨u2, hu2⟩ := end_ex (n := n) (c := c) (f := f) (m := _) (h.s2 hs) (Nat.le_refl _)
            have e1 := end_bl cl rj bl1 hu2 uj
            subst e1
            have e2 := meas_step rj (i := k) (by rw [lj2]; omega) f3
            have ws : IsWayF c f (exch s k) [k + 1, k] := by
              refine ⟨⟨by rw [lk]; omega, f1, ?_⟩, ⟨by rw [h.r2len hs]; omega, f2, ?_⟩, trivial⟩
              · refine cl s _ (k + 1) (k + 1) hs (h.r1 hs) (by omega) (by rw [lk]; omega) ?_ hj.blind
                obtain ⟨a0, a1, a2⟩ := h.r1v hs
                have hv := h.vals hs
                have lo : lowAt (exch s k) (k + 1) = min (s.getD k 0) (s.getD (k + 2) 0) := by
                  show min ((exch s k).getD (k + 1) 0) ((exch s k).getD (k + 2) 0) = _
                  rw [a1, a2]
                have hi : highAt (exch s k) (k + 1) = max (s.getD k 0) (s.getD (k + 2) 0) := by
                  show max ((exch s k).getD (k + 1) 0) ((exch s k).getD (k + 2) 0) = _
                  rw [a1, a2]
                have lo2 : lowAt s (k + 1) = min (s.getD (k + 1) 0) (s.getD (k + 2) 0) := rfl
                have hi2 : highAt s (k + 1) = max (s.getD (k + 1) 0) (s.getD (k + 2) 0) := rfl
                refine lies_of hs (h.r1 hs) (by rw [lo, lo2]; omega) (by rw [hi, hi2]; omega) fun x x1 x2 => ?_
                rw [take_succ_mem (by omega), take_succ_mem (by rw [lk]; omega), take_exch_lo hk (Nat.le_refl _), a0]
                constructor
                · rintro (y | rfl)
                  · exact .inl y
                  · omega
                · rintro (y | rfl)
                  · exact .inl y
                  · omega
              · rw [h.same1 hs]
                exact hj.blind
            obtain ⟨t2, ht2⟩ := end_ex (n := n) (c := c) (f := f) (m := _) (wayF_row rk ws) (Nat.le_refl _)
            have e3 := end_one cl (m := _) rk (Nat.le_refl _) (end_way ws ht2) ht
            subst e3
            refine cover_end cl (m := m) (k := k + 1) (h.s2 hs) (by omega) (by rw [h.s2len hs]; omega) f4 ?_ hu2
            have e4 : goAlong (exch s k) [k + 1, k] = exch (exch (exch s (k + 1)) k) (k + 1) := exch_three lj
            rw [e4] at ht2
            exact ht2
          · have bj : Bl c f (exch s k) j := bl_far hs hk hj (by omega)
            have rkj : RowOk n (exch (exch s k) j) := rk.exch (by have := rk.len; omega)
            obtain ⟨t2, ht2⟩ := end_ex (n := n) (c := c) (f := f) (m := _) rkj (Nat.le_refl _)
            have e3 := end_bl cl rk bj ht2 ht
            subst e3
            rw [exch_comm lj (by omega)] at ht2
            exact cover_end cl (m := m) (k := k) rj (by omega) (by rw [lj2]; exact hk) (by rw [fall_far lj (by omega)]; exact hf) ht2 uj
theorem end_mono {n : Int} {c : Arc3 → Bool} {f : Bool} (cl : BlUp n c) : ∀ {m : Nat} {r s t u : List Int}, RowOk n r → RowOk n s → meas n f s ≤ m → LeF f r s → IsEnd c f r t → IsEnd c f s u → LeF f t u
  | m, r, s, t, u, hr, hs, hm, h, ht, hu => by
    by_cases e : r = s
    · subst e
      rw [end_one cl (m := _) hr (Nat.le_refl _) ht hu]
      exact LeF.refl
    · obtain ⟨k, hk, hf, hle⟩ := step_between hr hs h e
      have hl := hs.len
      have rk : RowOk n (exch s k) := hs.exch (by omega)
      have ek := meas_step hs hk hf
      obtain ⟨v, hv⟩ := end_ex (n := n) (c := c) (f := f) (m := _) rk (Nat.le_refl _)
      cases m with
      | zero => omega
      | succ m => exact (end_mono cl (m := m) hr rk (by omega) hle ht hv).trans (cover_end cl (m := _) hs (Nat.le_refl _) hk hf hv hu)

/-! classes -/
theorem isWay_F {c : Arc3 → Bool} : ∀ {w : List Nat} {r : List Int}, IsWay c r w → IsWayF c true r w
  | [], _, _ => trivial
  | _ :: _, _, h => ⟨⟨h.1, h.2.1, h.2.2.1⟩, isWay_F h.2.2.2⟩
theorem first_end {n : Int} {c : Arc3 → Bool} {r : List Int} (hr : RowOk n r) (h1 : 1 ≤ n) : IsEnd c true r (firstL c r) := ⟨downL c r, isWay_F downL_way, rfl, downL_end hr h1⟩
open Classical in
noncomputable def lastL (c : Arc3 → Bool) (r : List Int) : List Int := if h : ∃ t, IsEnd c false r t then h.choose else r
theorem last_end {n : Int} {c : Arc3 → Bool} {r : List Int} (hr : RowOk n r) : IsEnd c false r (lastL c r) := by
  have h : ∃ t, IsEnd c false r t := end_ex (n := n) hr (Nat.le_refl _)
  unfold lastL
  rw [dif_pos h]
  exact h.choose_spec
theorem last_row_ok {n : Int} {c : Arc3 → Bool} {r : List Int} (hr : RowOk n r) : RowOk n (lastL c r) := end_row hr (last_end hr)
section
variable {n : Int} {c : Arc3 → Bool} (cl : BlUp n c)
include cl
theorem first_is {r t : List Int} (hr : RowOk n r) (h1 : 1 ≤ n) (h : IsEnd c true r t) : firstL c r = t := end_one cl (m := _) hr (Nat.le_refl _) (first_end hr h1) h
theorem last_is {r t : List Int} (hr : RowOk n r) (h : IsEnd c false r t) : lastL c r = t := end_one cl (m := _) hr (Nat.le_refl _) (last_end hr) h
theorem first_blind {r : List Int} {i : Nat} (hr : RowOk n r) (h1 : 1 ≤ n) (hi : i + 1 < r.length) (hb : c (recT r i) = false) : firstL c (exch r i) = firstL c r := by
  have hl := hr.len
  have ri : RowOk n (exch r i) := hr.exch (by omega)
  cases hf : isFall r i with
  | true => exact (first_is cl hr h1 (end_step ⟨hi, hf, hb⟩ (first_end ri h1))).symm
  | false =>
    have b : Bl c true (exch r i) i := ⟨by rw [exch_len hi]; exact hi, by rw [exch_fall hr hi, hf]; rfl, by rw [recT_same hr hi]; exact hb⟩
    exact first_is cl ri h1 (end_step b (by rw [exch_twice hi]; exact first_end hr h1))
theorem last_blind {r : List Int} {i : Nat} (hr : RowOk n r) (hi : i + 1 < r.length) (hb : c (recT r i) = false) : lastL c (exch r i) = lastL c r := by
  have hl := hr.len
  have ri : RowOk n (exch r i) := hr.exch (by omega)
  cases hf : isFall r i with
  | false => exact (last_is cl hr (end_step ⟨hi, hf, hb⟩ (last_end ri))).symm
  | true =>
    have b : Bl c false (exch r i) i := ⟨by rw [exch_len hi]; exact hi, by rw [exch_fall hr hi, hf]; rfl, by rw [recT_same hr hi]; exact hb⟩
    exact last_is cl ri (end_step b (by rw [exch_twice hi]; exact last_end hr))
theorem first_way {f : Bool} (h1 : 1 ≤ n) : ∀ {w : List Nat} {r : List Int}, RowOk n r → IsWayF c f r w → firstL c (goAlong r w) = firstL c r
  | [], _, _, _ => rfl
  | i :: w, r, hr, hw => by
    have hl := hr.len
    have li := hw.1.lt
    have := first_way h1 (w := w) (r := exch r i) (hr.exch (by omega)) hw.2
    rw [goAlong_cons, this, first_blind cl hr h1 li hw.1.blind]
theorem last_way {f : Bool} : ∀ {w : List Nat} {r : List Int}, RowOk n r → IsWayF c f r w → lastL c (goAlong r w) = lastL c r
  | [], _, _, _ => rfl
  | i :: w, r, hr, hw => by
    have hl := hr.len
    have li := hw.1.lt
    have := last_way (w := w) (r := exch r i) (hr.exch (by omega)) hw.2
    rw [goAlong_cons, this, last_blind cl hr li hw.1.blind]
theorem first_of_end {f : Bool} {r t : List Int} (hr : RowOk n r) (h1 : 1 ≤ n) (h : IsEnd c f r t) : firstL c t = firstL c r := by
  obtain ⟨w, h2, h3, _⟩ := h
  rw [← h3]
  exact first_way cl h1 hr h2
theorem last_of_end {f : Bool} {r t : List Int} (hr : RowOk n r) (h : IsEnd c f r t) : lastL c t = lastL c r := by
  obtain ⟨w, h2, h3, _⟩ := h
  rw [← h3]
  exact last_way cl hr h2
theorem first_first {r : List Int} (hr : RowOk n r) (h1 : 1 ≤ n) : firstL c (firstL c r) = firstL c r := first_of_end cl hr h1 (first_end hr h1)
theorem first_last {r : List Int} (hr : RowOk n r) (h1 : 1 ≤ n) : firstL c (lastL c r) = firstL c r := first_of_end cl hr h1 (last_end hr)
theorem last_first {r : List Int} (hr : RowOk n r) (h1 : 1 ≤ n) : lastL c (firstL c r) = lastL c r := last_of_end cl hr (first_end hr h1)
theorem one_last {r s : List Int} (hr : RowOk n r) (hs : RowOk n s) (h1 : 1 ≤ n) : firstL c r = firstL c s ↔ lastL c r = lastL c s := by
  constructor
  · intro h
    rw [← last_first cl hr h1, h, last_first cl hs h1]
  · intro h
    rw [← first_last cl hr h1, h, first_last cl hs h1]
theorem first_mono {r s : List Int} (hr : RowOk n r) (hs : RowOk n s) (h1 : 1 ≤ n) (h : LeR r s) : LeR (firstL c r) (firstL c s) := end_mono cl (f := true) (m := _) hr hs (Nat.le_refl _) h (first_end hr h1) (first_end hs h1)
theorem last_mono {r s : List Int} (hr : RowOk n r) (hs : RowOk n s) (h : LeR r s) : LeR (lastL c r) (lastL c s) := end_mono cl (f := false) (m := _) hs hr (Nat.le_refl _) h (last_end hs) (last_end hr)
omit cl in
theorem first_le {r : List Int} (hr : RowOk n r) (h1 : 1 ≤ n) : LeR (firstL c r) r := end_leF (f := true) hr (first_end hr h1)
omit cl in
theorem le_last {r : List Int} (hr : RowOk n r) : LeR r (lastL c r) := end_leF (f := false) hr (last_end hr)
/-- a class is what lies between its first and its last row -/
theorem class_iff {r x : List Int} (hr : RowOk n r) (hx : RowOk n x) (h1 : 1 ≤ n) : firstL c x = firstL c r ↔ LeR (firstL c r) x ∧ LeR x (lastL c r) := by
  constructor
  · intro h
    refine ⟨?_, ?_⟩
    · rw [← h]
      exact first_le hx h1
    · rw [← (one_last cl hx hr h1).mp h]
      exact le_last hx
  · rintro ⟨a, b⟩
    have a2 := first_mono cl (firstL_row hr) hx h1 a
    have b2 := first_mono cl hx (last_row_ok hr) h1 b
    rw [first_first cl hr h1] at a2
    rw [first_last cl hr h1] at b2
    exact LeR.anti (firstL_row hx) (firstL_row hr) b2 a2
theorem one_between {r x s : List Int} (hr : RowOk n r) (hx : RowOk n x) (hs : RowOk n s) (h1 : 1 ≤ n) (a : LeR r x) (b : LeR x s) (h : firstL c r = firstL c s) : firstL c x = firstL c r := by
  have a2 := first_mono cl hr hx h1 a
  have b2 := first_mono cl hx hs h1 b
  rw [← h] at b2
  exact LeR.anti (firstL_row hx) (firstL_row hr) b2 a2
/-- least rows above, greatest rows below -/
theorem lub_up {r r' s t t' : List Int} (hr : RowOk n r) (hr' : RowOk n r') (hs : RowOk n s) (ht : RowOk n t) (ht' : RowOk n t') (h1 : 1 ≤ n) (le : LeR r r') (h : firstL c r = firstL c r') (k : IsLub r s t) (k' : IsLub r' s t') : firstL c t = firstL c t' := by
  have tt : LeR t t' := k.least ht' (le.trans k'.left) k'.right
  have rt : LeR r' (lastL c t) := by
    refine (le_last (c := c) hr').trans ?_
    rw [← (one_last cl hr hr' h1).mp h]
    exact last_mono cl hr ht k.left
  have : LeR t' (lastL c t) := k'.least (last_row_ok ht) rt (k.right.trans (le_last ht))
  exact (one_between cl ht ht' (last_row_ok ht) h1 tt this (first_last cl ht h1).symm).symm
theorem lub_one {r r' s t t' : List Int} (hr : RowOk n r) (hr' : RowOk n r') (hs : RowOk n s) (ht : RowOk n t) (ht' : RowOk n t') (h1 : 1 ≤ n) (h : firstL c r = firstL c r') (k : IsLub r s t) (k' : IsLub r' s t') : firstL c t = firstL c t' := by
  have hf := firstL_row (c := c) hr
  obtain ⟨u, hu, ku⟩ := lub_ex hf hs
  have e1 := lub_up cl hf hr hs hu ht h1 (first_le hr h1) (first_first cl hr h1) ku k
  have le2 : LeR (firstL c r) r' := by rw [h]; exact first_le hr' h1
  have e2 := lub_up cl hf hr' hs hu ht' h1 le2 (by rw [first_first cl hr h1, h]) ku k'
  rw [← e1, e2]
theorem lub_two {r r' s s' t t' : List Int} (hr : RowOk n r) (hr' : RowOk n r') (hs : RowOk n s) (hs' : RowOk n s') (ht : RowOk n t) (ht' : RowOk n t') (h1 : 1 ≤ n) (h : firstL c r = firstL c r') (h2 : firstL c s = firstL c s') (k : IsLub r s t) (k' : IsLub r' s' t') : firstL c t = firstL c t' := by
  obtain ⟨u, hu, ku⟩ := lub_ex hr' hs
  rw [lub_one cl hr hr' hs ht hu h1 h k ku, lub_one cl hs hs' hr' hu ht' h1 h2 ku.comm k'.comm]
end
/-- the greatest row below two rows -/
def IsGlb (r s t : List Int) : Prop := IsLub r.reverse s.reverse t.reverse
section
variable {n : Int} {r s t : List Int} (hr : RowOk n r) (hs : RowOk n s) (ht : RowOk n t) (h : IsGlb r s t)
include hr hs ht h
theorem IsGlb.left : LeR t r := (glb_le hr hs ht h).1
theorem IsGlb.right : LeR t s := (glb_le hr hs ht h).2
theorem IsGlb.most {u : List Int} (hu : RowOk n u) (h1 : LeR u r) (h2 : LeR u s) : LeR u t := glb_most hr hs ht hu h h1 h2
omit hr hs ht in
theorem IsGlb.comm : IsGlb s r t := IsLub.comm h
end
theorem glb_ex {n : Int} {r s : List Int} (hr : RowOk n r) (hs : RowOk n s) : ∃ t, RowOk n t ∧ IsGlb r s t := by
  obtain ⟨t, ht, k⟩ := lub_ex hr.rev hs.rev
  exact ⟨t.reverse, ht.rev, by unfold IsGlb; rw [List.reverse_reverse]; exact k⟩
section
variable {n : Int} {c : Arc3 → Bool} (cl : BlUp n c)
include cl
theorem glb_down {r r' s t t' : List Int} (hr : RowOk n r) (hr' : RowOk n r') (hs : RowOk n s) (ht : RowOk n t) (ht' : RowOk n t') (h1 : 1 ≤ n) (le : LeR r' r) (h : firstL c r = firstL c r') (k : IsGlb r s t) (k' : IsGlb r' s t') : firstL c t = firstL c t' := by
  have tt : LeR t' t := k.most hr hs ht ht' ((k'.left hr' hs ht').trans le) (k'.right hr' hs ht')
  have rt : LeR (firstL c t) r' := by
    refine LeR.trans (first_mono cl ht hr h1 (k.left hr hs ht)) ?_
    rw [h]
    exact first_le hr' h1
  have : LeR (firstL c t) t' := k'.most hr' hs ht' (firstL_row ht) rt ((first_le ht h1).trans (k.right hr hs ht))
  have e := one_between cl (firstL_row ht) ht' ht h1 this tt (first_first cl ht h1)
  rw [e, first_first cl ht h1]
theorem glb_one {r r' s t t' : List Int} (hr : RowOk n r) (hr' : RowOk n r') (hs : RowOk n s) (ht : RowOk n t) (ht' : RowOk n t') (h1 : 1 ≤ n) (h : firstL c r = firstL c r') (k : IsGlb r s t) (k' : IsGlb r' s t') : firstL c t = firstL c t' := by
  have hf := firstL_row (c := c) hr
  obtain ⟨u, hu, ku⟩ := glb_ex hf hs
  have e1 := glb_down cl hr hf hs ht hu h1 (first_le hr h1) (first_first cl hr h1).symm k ku
  have le2 : LeR (firstL c r) r' := by rw [h]; exact first_le hr' h1
  have e2 := glb_down cl hr' hf hs ht' hu h1 le2 (by rw [first_first cl hr h1, h]) k' ku
  rw [e1, e2]
theorem glb_two {r r' s s' t t' : List Int} (hr : RowOk n r) (hr' : RowOk n r') (hs : RowOk n s) (hs' : RowOk n s') (ht : RowOk n t) (ht' : RowOk n t') (h1 : 1 ≤ n) (h : firstL c r = firstL c r') (h2 : firstL c s = firstL c s') (k : IsGlb r s t) (k' : IsGlb r' s' t') : firstL c t = firstL c t' := by
  obtain ⟨u, hu, ku⟩ := glb_ex hr' hs
  rw [glb_one cl hr hr' hs ht hu h1 h k ku, glb_one cl hs hs' hr' hu ht' h1 h2 ku.comm k'.comm]
end

theorem last_nil {n : Int} {c : Arc3 → Bool} (cl : BlUp n c) {r s : List Int} {w : List Nat} (hr : RowOk n r) (hw : IsWayF c false r w) (hs : goAlong r w = s) (hb : blindL c false s = []) : lastL c r = s := last_is cl hr ⟨w, hw, hs, hb⟩
def C_last_in_class : Con := fun _ es P => ∃ (n : Int) (L : List Arc3) (r : List Int), es = [.dat (.int n), .dat (.tuple (L.map arcT)), .dat (.tuple (intsD r))] ∧ RuleOk n L ∧ RowOk n r ∧ 1 ≤ n ∧ P (.dat (.tuple (intsD (lastL (inL L) r))))
theorem ok_last_in_class (T : Tx K mg) : FnOk P w K mg base CX0 7 T.f_last_in_class T.d_last_in_class ["n", "rule", "row"] (SpC K C_last_in_class) := by
  refine kfn T.F_last_in_class sc_last_in_class (fun W es P ⟨_, _, _, h, _⟩ => by rw [h]; rfl) fun cdv A outer s H E hr => ⟨_, (pss_cons (ps_set (i := 3) sc_last_in_class.nd rfl (by first | exact Or.inl rfl | exact Or.inr rfl) (pe_call (ok_blind_rises T) hr (by rfl) T.g_blind_rises T.F_blind_rises.kp T.b_blind_rises .nil pass0 (pa_cons (pv 0) (pa_cons (pv 1) (pa_cons (pv 2) pa_nil)))))
      (pss_cons (ps_while PassesOwn.never (pt_truK (K := K) rfl (pv 3) (by intro _; rfl)) (pss_cons (ps_set (i := 2) sc_last_in_class.nd rfl (by first | exact Or.inl rfl | exact Or.inr rfl) (pe_call (ok_exchanged T) (hr.mono (by decide)) (by rfl) T.g_exchanged T.F_exchanged.kp T.b_exchanged .nil pass0 (pa_cons (pv 0) (pa_cons (pv 2) (pa_cons (pe_ix (ix_K (K := K) rfl) (pv 3) pe_int (fun _ _ => rfl)) pa_nil)))))
      (pss_one (ps_set (i := 3) sc_last_in_class.nd rfl (by first | exact Or.inl rfl | exact Or.inr rfl) (pe_call (ok_blind_rises T) hr (by rfl) T.g_blind_rises T.F_blind_rises.kp T.b_blind_rises .nil pass0 (pa_cons (pv 0) (pa_cons (pv 1) (pa_cons (pv 2) pa_nil))))))))
      (pss_one (ps_ret (pv 2))))), fun W es P hC => ?_⟩
  obtain ⟨n, L, r, rfl, hL, ho, hn, q⟩ := hC
  have cl := blUp_rule hL
  try dsimp only [cx_K, cx_w]
  walk_at "ka"
  refine ⟨n, L, r, rfl, ho, ?_⟩
  refine ds_seq (ds_while (fun mm W' Δ' => ∃ w s, W' = W ∧ IsWayF (inL L) false r w ∧ goAlong r w = s ∧ meas n false s = mm ∧ Δ' = [some (.dat (.int n)), some (.dat (.tuple (L.map arcT))), some (.dat (.tuple (intsD s))), some (.dat (.list ((blindL (inL L) false s).map fun i : Nat => .int i)))]) ⟨_, [], r, rfl, trivial, rfl, rfl, rfl⟩ ?_)
  rintro mm W' Δ' ⟨w, s, rfl, hw, hs, hm, rfl⟩
  have hrow : RowOk n s := by rw [← hs]; exact wayF_row ho hw
  have s3 := hrow.len
  have hmem : ∀ i ∈ blindL (inL L) false s, Bl (inL L) false s i := fun i hi => bl_iff.mp hi
  have hstop : blindL (inL L) false s = [] → lastL (inL L) r = s := last_nil cl ho hw hs
  generalize blindL (inL L) false s = bs at hmem hstop
  cases bs with
  | nil =>
    walk_at "ka"
    refine ⟨(fun z hz => by cases hz), nofun, fun _ => ?_⟩
    walk_at "ka"
    rw [hstop rfl] at q
    exact ⟨Wd.Le.refl _, q⟩
  | cons i t =>
    have hb := hmem i (by simp)
    have m1 := hb.lt
    walk_at "ka"
    refine ⟨(fun z hz => by cases hz), fun _ => ?_, nofun⟩
    walk_at "ka"
    refine opd_ixL (atI_nat (j := 0) rfl) ?_
    walk_at "ka"
    refine ⟨n, s, i, rfl, hrow, by omega, ?_⟩
    walk_at "ka"
    have hrow2 : RowOk n (exch s i) := hrow.exch (by omega)
    refine ⟨n, L, exch s i, rfl, hrow2, ?_⟩
    have ei := meas_step hrow m1 hb.fall
    refine ⟨meas n false (exch s i), by omega, w ++ [i], exch s i, rfl, wayF_app hw ⟨by rw [hs]; exact hb, trivial⟩, by rw [goAlong_snoc, hs], rfl, rfl⟩

def C_first_row : Con := fun _ es P => ∃ (n : Int) (L : List Arc3) (r : List Int), es = [.dat (.int n), .dat (.tuple (L.map arcT)), .dat (.tuple (intsD r))] ∧ RuleOk n L ∧ L.length < 1000 ∧ RowOk n r ∧ 1 ≤ n ∧ P (.dat (.tuple (intsD (firstL (inL L) r))))
theorem ok_first_row (T : Tx K mg) : FnOk P w K mg base CX0 10 T.f_first_row T.d_first_row ["n", "rule", "row"] (SpC K C_first_row) := by
  refine kfn T.F_first_row sc_first_row (fun W es P ⟨_, _, _, h, _⟩ => by rw [h]; rfl) fun cdv A outer s H E hr => ⟨_, (pss_cons (ps_expr (pe_call (ok_check_rule_and_rows T) hr (by rfl) T.g_check_rule_and_rows T.F_check_rule_and_rows.kp T.b_check_rule_and_rows .nil pass0 (pa_cons (pv 0) (pa_cons (pv 1) (pa_cons (pe_tup (pa_cons (pv 2) pa_nil)) pa_nil)))))
      (pss_one (ps_ret (pe_call (ok_first_in_class T) (hr.mono (by decide)) (by rfl) T.g_first_in_class T.F_first_in_class.kp T.b_first_in_class .nil pass0 (pa_cons (pv 0) (pa_cons (pv 1) (pa_cons (pv 2) pa_nil))))))), fun W es P hC => ?_⟩
  obtain ⟨n, L, r, rfl, hL, hz, ho, hn, q⟩ := hC
  have h2 := ho.hi
  try dsimp only [cx_K, cx_w]
  walk_at "ka"
  refine ⟨n, L, [r], rfl, hL, h2, hz, fun s hs => by rw [List.mem_singleton.mp hs]; exact ho, ?_⟩
  walk_at "ka"
  exact ⟨n, L, r, rfl, ho, hn, Wd.Le.refl W, q⟩

def C_last_row : Con := fun _ es P => ∃ (n : Int) (L : List Arc3) (r : List Int), es = [.dat (.int n), .dat (.tuple (L.map arcT)), .dat (.tuple (intsD r))] ∧ RuleOk n L ∧ L.length < 1000 ∧ RowOk n r ∧ 1 ≤ n ∧ P (.dat (.tuple (intsD (lastL (inL L) r))))
theorem ok_last_row (T : Tx K mg) : FnOk P w K mg base CX0 10 T.f_last_row T.d_last_row ["n", "rule", "row"] (SpC K C_last_row) := by
  refine kfn T.F_last_row sc_last_row (fun W es P ⟨_, _, _, h, _⟩ => by rw [h]; rfl) fun cdv A outer s H E hr => ⟨_, (pss_cons (ps_expr (pe_call (ok_check_rule_and_rows T) hr (by rfl) T.g_check_rule_and_rows T.F_check_rule_and_rows.kp T.b_check_rule_and_rows .nil pass0 (pa_cons (pv 0) (pa_cons (pv 1) (pa_cons (pe_tup (pa_cons (pv 2) pa_nil)) pa_nil)))))
      (pss_one (ps_ret (pe_call (ok_last_in_class T) (hr.mono (by decide)) (by rfl) T.g_last_in_class T.F_last_in_class.kp T.b_last_in_class .nil pass0 (pa_cons (pv 0) (pa_cons (pv 1) (pa_cons (pv 2) pa_nil))))))), fun W es P hC => ?_⟩
  obtain ⟨n, L, r, rfl, hL, hz, ho, hn, q⟩ := hC
  have h2 := ho.hi
  try dsimp only [cx_K, cx_w]
  walk_at "ka"
  refine ⟨n, L, [r], rfl, hL, h2, hz, fun s hs => by rw [List.mem_singleton.mp hs]; exact ho, ?_⟩
  walk_at "ka"
  exact ⟨n, L, r, rfl, hL, ho, hn, Wd.Le.refl W, q⟩

def C_are_one : Con := fun _ es P => ∃ (n : Int) (L : List Arc3) (r s : List Int), es = [.dat (.int n), .dat (.tuple (L.map arcT)), .dat (.tuple (intsD r)), .dat (.tuple (intsD s))] ∧ RuleOk n L ∧ L.length < 1000 ∧ RowOk n r ∧ RowOk n s ∧ 1 ≤ n ∧ P (.dat (.bool (decide (firstL (inL L) r = firstL (inL L) s))))
theorem ok_are_one (T : Tx K mg) : FnOk P w K mg base CX0 10 T.f_are_one T.d_are_one ["n", "rule", "one", "other"] (SpC K C_are_one) := by
  refine kfn T.F_are_one sc_are_one (fun W es P ⟨_, _, _, _, h, _⟩ => by rw [h]; rfl) fun cdv A outer s H E hr => ⟨_, (pss_cons (ps_expr (pe_call (ok_check_rule_and_rows T) hr (by rfl) T.g_check_rule_and_rows T.F_check_rule_and_rows.kp T.b_check_rule_and_rows .nil pass0 (pa_cons (pv 0) (pa_cons (pv 1) (pa_cons (pe_tup (pa_cons (pv 2) (pa_cons (pv 3) pa_nil))) pa_nil)))))
      (pss_one (ps_ret (pe_cmpR (op_eqK (K := K) rfl hr.units) (pe_call (ok_first_in_class T) (hr.mono (by decide)) (by rfl) T.g_first_in_class T.F_first_in_class.kp T.b_first_in_class .nil pass0 (pa_cons (pv 0) (pa_cons (pv 1) (pa_cons (pv 2) pa_nil)))) (pe_call (ok_first_in_class T) (hr.mono (by decide)) (by rfl) T.g_first_in_class T.F_first_in_class.kp T.b_first_in_class .nil pass0 (pa_cons (pv 0) (pa_cons (pv 1) (pa_cons (pv 3) pa_nil)))) (nomark _))))), fun W es P hC => ?_⟩
  obtain ⟨n, L, r, s2, rfl, hL, hz, ho, ho2, hn, q⟩ := hC
  have h2 := ho.hi
  try dsimp only [cx_K, cx_w]
  walk_at "ka"
  refine ⟨n, L, [r, s2], rfl, hL, h2, hz, fun s hs => ?_, ?_⟩
  · simp only [List.mem_cons, List.not_mem_nil, or_false] at hs
    rcases hs with rfl | rfl
    · exact ho
    · exact ho2
  walk_at "ka"
  refine ⟨n, L, r, rfl, ho, hn, ?_⟩
  walk_at "ka"
  refine ⟨n, L, s2, rfl, ho2, hn, ?_⟩
  refine opd_eq (shaped_tupI _) (shaped_tupI _) ⟨Wd.Le.refl W, ?_⟩
  rw [eqv_rows]
  exact q

/-- the rows of a class, in their order -/
noncomputable def classL (n : Int) (L : List Arc3) (r : List Int) : List (List Int) := (rowsAll n).filter fun s => (turnedD (firstL (inL L) r)).all (hasD (turnedD s)) && (turnedD s).all (hasD (turnedD (lastL (inL L) r)))
def C_class_of : Con := fun _ es P => ∃ (n : Int) (L : List Arc3) (r : List Int), es = [.dat (.int n), .dat (.tuple (L.map arcT)), .dat (.tuple (intsD r))] ∧ RuleOk n L ∧ L.length < 1000 ∧ RowOk n r ∧ 1 ≤ n ∧ n ≤ 5 ∧ P (.dat (.tuple ((classL n L r).map rowD)))
theorem ok_class_of (T : Tx K mg) : FnOk P w K mg base CX0 11 T.f_class_of T.d_class_of ["n", "rule", "row"] (SpC K C_class_of) := by
  refine kfn T.F_class_of sc_class_of (fun W es P ⟨_, _, _, h, _⟩ => by rw [h]; rfl) fun cdv A outer s H E hr => ⟨_, (pss_cons (ps_set (i := 3) sc_class_of.nd rfl (by first | exact Or.inl rfl | exact Or.inr rfl) (pe_call (ok_first_row T) hr (by rfl) T.g_first_row T.F_first_row.kp T.b_first_row .nil pass0 (pa_cons (pv 0) (pa_cons (pv 1) (pa_cons (pv 2) pa_nil)))))
      (pss_cons (ps_set (i := 4) sc_class_of.nd rfl (by first | exact Or.inl rfl | exact Or.inr rfl) (pe_call (ok_last_row T) hr (by rfl) T.g_last_row T.F_last_row.kp T.b_last_row .nil pass0 (pa_cons (pv 0) (pa_cons (pv 1) (pa_cons (pv 2) pa_nil)))))
      (pss_one (ps_ret (pe_callTy (cr_tupK (K := K) rfl) (by rfl) T.m_tuple (by decide +kernel) (pa_cons (pe_lc (own := [("some", 5)]) rfl sc_class_of.nd (pi_seqK (K := K) rfl (pe_call (ok_all_rows T) (hr.mono (by decide)) (by rfl) T.g_all_rows T.F_all_rows.kp T.b_all_rows .nil pass0 (pa_cons (pv 0) pa_nil))) (blkOk_by (N := N_class_of) (sc := defScope s_class_of) (by decide +kernel)) (fun _ _ _ _ _ => (pg_name (i := 5) sc_class_of.nd rfl (by first | exact Or.inl rfl | exact Or.inr rfl))) (fun _ _ _ _ _ => (pts_one (PW.pt (pw_and (pt_val (pe_call (ok_is_below T) (hr.mono (by decide)) (by rfl) T.g_is_below T.F_is_below.kp T.b_is_below .nil pass0 (pa_cons (pv 0) (pa_cons (pv 3) (pa_cons (pv 5) pa_nil))))) (pw_and1 (pt_val (pe_call (ok_is_below T) (hr.mono (by decide)) (by rfl) T.g_is_below T.F_is_below.kp T.b_is_below .nil pass0 (pa_cons (pv 0) (pa_cons (pv 5) (pa_cons (pv 4) pa_nil)))))))))) (fun _ _ _ _ _ => (pv 5))) pa_nil)))))), fun W es P hC => ?_⟩
  obtain ⟨n, L, r, rfl, hL, hz, ho, hn, h5, q⟩ := hC
  have hlen := (rowsAll_len (n := n) (by omega) h5).2
  have hlow : RowOk n (firstL (inL L) r) := firstL_row ho
  have hhigh : RowOk n (lastL (inL L) r) := last_row_ok ho
  try dsimp only [cx_K, cx_w]
  walk_at "ka"
  refine ⟨n, L, r, rfl, hL, hz, ho, hn, ?_⟩
  walk_at "ka"
  refine ⟨n, L, r, rfl, hL, hz, ho, hn, ?_⟩
  walk_at "ka"
  refine de_lcM (rowsAll n) (fun r => DV.dat (rowD r)) (fun s => (turnedD (firstL (inL L) r)).all (hasD (turnedD s)) && (turnedD s).all (hasD (turnedD (lastL (inL L) r)))) rowD (di_seqT ?_) (by omega) ?_ ?_
  · walk_at "ka"
    refine ⟨n, rfl, hn, h5, _, rfl, ?_⟩
    exact List.map_map ..
  · intro s hs W' hW
    have hso := (rowsAll_iff (by omega) h5).mp hs
    refine ⟨_, _, tg_name, by simp, ?_⟩
    walk_at "ka"
    refine ⟨n, _, s, rfl, hlow, hso, by omega, _, rfl, fun e => ?_, fun e => ?_⟩
    · rw [e]
      walk_at "ka"
      refine ⟨n, s, _, rfl, hso, hhigh, by omega, ?_⟩
      refine ⟨_, rfl, (Bool.true_and _).symm, fun _ => ?_⟩
      walk_at "ka"
      rfl
    · rw [e]
      exact ⟨rfl, fun h => by cases h⟩
  · walk_at "ka"
    exact ⟨Wd.Le.refl W, q⟩

theorem ok__law_deck (T : Tx K mg) : FnOk P w K mg base CX0 1 T.f__law_deck T.d__law_deck ["script"] (spDeck2 K) := by
  refine T.F__law_deck.ok sc__law_deck (fun vs H Q E h => ?_) (fun cdv A outer s H vs Q E hr h => ?_)
  · obtain ⟨a, ns, rfl, _⟩ := h
    rfl
  · obtain ⟨a, ns, rfl, hS, hl, q⟩ := h
    refine ⟨_, (pss_cons (ps_set (i := 1) sc__law_deck.nd rfl (by first | exact Or.inl rfl | exact Or.inr rfl) pe_int)
      (pss_cons (ps_for PassesOwn.never rfl (pi_seqK (K := K) rfl (pe_slice (sl_K (K := K) rfl) (pv 0) po_none (po_some pe_int))) (pg_name (i := 2) sc__law_deck.nd rfl (by first | exact Or.inl rfl | exact Or.inr rfl)) (pss_one (ps_set (i := 1) sc__law_deck.nd rfl (by first | exact Or.inl rfl | exact Or.inr rfl) (pe_op op_mod (pe_callTy cr_intX (by rfl) T.m_int (by decide +kernel) (pa_cons (pe_op (op_addK (K := K) rfl) (pe_op (op_addK (K := K) rfl) (pe_op op_mulX (pv 1) pe_int) (pe_op op_mod (pe_callTy cr_intX (by rfl) T.m_int (by decide +kernel) (pa_cons (pv 2) pa_nil)) pe_int)) pe_int) pa_nil)) pe_int))))
      (pss_one (ps_ret (pe_disp (pps_cons pe_str (pe_revK (K := K) rfl (pe_lc (own := [("cell", 2)]) rfl sc__law_deck.nd (pi_seqK (K := K) rfl (pe_slice (sl_K (K := K) rfl) (pv 0) po_none (po_some pe_int))) (blkOk_by (N := N__law_deck) (sc := defScope s__law_deck) (by decide +kernel)) (fun _ _ _ _ _ => (pg_name (i := 2) sc__law_deck.nd rfl (by first | exact Or.inl rfl | exact Or.inr rfl))) (fun _ _ _ _ _ => pts_nil) (fun _ _ _ _ _ => (pe_callTy cr_intX (by rfl) T.m_int (by decide +kernel) (pa_cons (pv 2) pa_nil))))) (pps_cons pe_str (pv 1) (pps_cons pe_str pe_int pps_nil))) (by rfl) (by rfl) (fun z => by cases z) (by decide)))))), ?_⟩
    try dsimp only [cx_K, cx_w]
    refine ⟨.ref a, rfl, 63, rfl, .inl ⟨a, ns.map V.int, rfl, hS, fun p hp => .inl ⟨p, rfl, ⟨_, SqL.of upd_same⟩, for_list (xs := cutV (ns.map V.int) none (some 63)) (fun i σ H' => Ex H H' ∧ H' p = some (.lst (cutV (ns.map V.int) none (some 63))) ∧ ∃ m y, σ = [some (.ref a), some (.int m), y])
      ⟨Ex.new hp, upd_same, _, none, rfl⟩ (fun i σ H' _ h => SqL.of h.2.1) (fun i x σ H' hx h => ?_) (fun σ H' h => ?_)⟩⟩⟩
    · obtain ⟨e, hp', m, y, rfl⟩ := h
      rw [cutV_map, List.getElem?_map] at hx
      obtain ⟨z, hz, rfl⟩ : ∃ z, (cutG ns none (some 63))[i]? = some z ∧ V.int z = x := by
        cases h : (cutG ns none (some 63))[i]? with
        | none =>
          rw [h] at hx
          cases hx
        | some z =>
          rw [h] at hx
          exact ⟨z, rfl, Option.some.inj hx⟩
      have env : EnvOk K (Wd.top.view H') [some (.ref a), some (.int m), some (.int z)] [none, some (.dat (.int m)), some (.dat (.int z))] := by
        refine ⟨rfl, fun j e he => ?_⟩
        match j, he with
        | 1, he =>
          cases he
          exact ⟨_, rfl, .int m⟩
        | 2, he =>
          cases he
          exact ⟨_, rfl, .int z⟩
      have body := fun te (h : DE K Wd.top [none, some (.dat (.int m)), some (.dat (.int z))] te fun e => ∃ n, e = .dat (.int n)) => h _ _ env trivial
      refine asg_by (σ := [some (.ref a), some (.int m), some (.int z)]) ?_
      refine body _ ?_ _ fun v H2 en _ x2 pe re => ?_
      · walk_at "ka"
        refine opd_mulI (.inr (by decide)) ?_
        walk_at "ka"
        refine opd_IC (by decide) ?_
        walk_at "ka"
        refine opd_IC (by decide) ⟨_, rfl⟩
      · obtain ⟨n, rfl⟩ := pe
        cases re
        rw [top_view, top_view] at x2
        exact ⟨e.trans x2, x2 _ _ hp', n, some (.int z), rfl⟩
    · obtain ⟨e, hp', m, y, rfl⟩ := h
      refine ret_deck2 rfl (fun d hd Q2 q2 => ?_) fun d c m k cs H2 ne hd hc e2 g1 g2 g3 => q d c m k cs H2 ne (fresh_back e hd) (fresh_back e hc) (e.trans e2) g1 g2 g3
      have hS2 : SqL K (upd H' d (.dK [])) a (ns.map V.int) := ex_l (e.trans (Ex.new hd)) hS
      have env : EnvOk K ((Wd.script K a ns).view (upd H' d (.dK []))) [some (.ref a), some (.int m), y] [some (.raw (.ref a)), some (.dat (.int m)), none] := by
        refine ⟨rfl, fun j e he => ?_⟩
        match j, he with
        | 0, he =>
          cases he
          exact ⟨_, rfl, rfl⟩
        | 1, he =>
          cases he
          exact ⟨_, rfl, .int m⟩
        | 2, he => cases he
        | j + 3, he => cases he
      have body := fun te (h : DN K (Wd.script K a ns) [some (.raw (.ref a)), some (.dat (.int m)), none] te fun ds => ∃ cs : List Int, ds = cs.map PyData.int ∧ cs.length ≤ 63) => h _ _ env hS2
      refine body _ ?_ _ fun ds p H1 vs _ x1 hp hv hd2 => ?_
      · refine dn_revL ?_
        refine de_lcM (cutG ns none (some 63)) (fun z => DV.dat (.int z)) (fun _ => true) (fun z => .int z) (di_seqL ?_) (by have := cut_len ns none (some 63); omega) ?_ ?_
        · walk_at "ka"
          refine sld_script ?_
          exact ⟨_, rfl, List.map_map ..⟩
        · intro z hz W' hW
          refine ⟨_, _, tg_name, by simp, ?_⟩
          walk_at "ka"
          refine ⟨rfl, fun _ => ?_⟩
          walk_at "ka"
          rfl
        · rw [List.filter_eq_self.mpr (fun _ _ => rfl)]
          refine ⟨_, rfl, (cutG ns none (some 63)).reverse, by rw [List.map_reverse], ?_⟩
          have := cut_len ns none (some 63)
          rw [List.length_reverse]
          omega
      · obtain ⟨cs, rfl, hcs⟩ := hd2
        rw [Dqs.ints_inv hv]
        exact q2 cs p H1 x1 hp (by omega)

def C__law_draw : Con := fun W es P => ∃ d c m, es = [.raw (.ref d), .dat (.int m)] ∧ HasDeck2 W d c ∧ 1 ≤ m ∧ m < 1000000 ∧ ∀ r, 0 ≤ r → r < m → P (.dat (.int r))
theorem mod_lt {z m : Int} (h : 1 ≤ m) : 0 ≤ z % m ∧ z % m < m := ⟨Int.emod_nonneg _ (by omega), Int.emod_lt_of_pos _ (by omega)⟩
theorem ok__law_draw (T : Tx K mg) : FnOk P w K mg base CX0 1 T.f__law_draw T.d__law_draw ["deck", "below"] (SpC K C__law_draw) := by
  refine kfn T.F__law_draw sc__law_draw (fun W es P ⟨_, _, _, h, _⟩ => by rw [h]; rfl) fun cdv A outer s H E hr => ⟨_, (pss_cons (ps_dput (hu_of hr) (pv 0) pe_str (pe_op (op_addK (K := K) rfl) (pe_dget (hu_of hr) (pv 0) pe_str (fun _ _ => rfl)) pe_int) rfl)
      (pss_cons (ps_set (i := 2) sc__law_draw.nd rfl (by first | exact Or.inl rfl | exact Or.inr rfl) (pe_op (op_addK (K := K) rfl) (pe_dget (hu_of hr) (pv 0) pe_str (fun _ _ => rfl)) (pe_op op_mulX pe_int (pe_dget (hu_of hr) (pv 0) pe_str (fun _ _ => rfl)))))
      (pss_cons (ps_if (pt_cmpR (op_neK (K := K) rfl hr.units) (pe_dget (hu_of hr) (pv 0) pe_str (fun _ _ => rfl)) (pe_lst pa_nil) (nomark _)) (pss_cons (ps_set (i := 3) sc__law_draw.nd rfl (by first | exact Or.inl rfl | exact Or.inr rfl) (pe_bm0 PySem.F.plainAttrs_list PySem.F.slot_list_pop PySem.F.type_list_pop mt_pop (pe_dget (hu_of hr) (pv 0) pe_str (fun _ _ => rfl))))
      (pss_cons (ps_if (pt_cmpR op_ge (pv 3) (pe_op op_pow pe_int pe_int) (nomark _)) (pss_cons (ps_expr (pe_bm PySem.F.plainAttrs_list PySem.F.slot_list_append PySem.F.type_list_append mt_append (pe_dget (hu_of hr) (pv 0) pe_str (fun _ _ => rfl)) (pa_cons (pe_op op_fdivN (pv 3) (pe_callB (cr_max2 rfl) (by rfl) T.m_max (by decide +kernel) (pa_cons pe_int (pa_cons (pv 1) pa_nil)))) pa_nil)))
      (pss_one (ps_ret (pe_op op_mod (pe_callTy cr_intX (by rfl) T.m_int (by decide +kernel) (pa_cons (pv 3) pa_nil)) (pv 1))))) pss_nil)
      (pss_one (ps_set (i := 2) sc__law_draw.nd rfl (by first | exact Or.inl rfl | exact Or.inr rfl) (pe_op (op_addK (K := K) rfl) (pv 2) (pe_op op_mod (pe_callTy cr_intX (by rfl) T.m_int (by decide +kernel) (pa_cons (pv 3) pa_nil)) pe_int)))))) pss_nil)
      (pss_cons (ps_set (i := 2) sc__law_draw.nd rfl (by first | exact Or.inl rfl | exact Or.inr rfl) (pe_op op_mod (pe_callTy cr_intX (by rfl) T.m_int (by decide +kernel) (pa_cons (pe_op (op_addK (K := K) rfl) (pe_op op_mulX (pv 2) pe_int) pe_int) pa_nil)) pe_int))
      (pss_cons (ps_set (i := 2) sc__law_draw.nd rfl (by first | exact Or.inl rfl | exact Or.inr rfl) (pe_op op_mod (pe_callTy cr_intX (by rfl) T.m_int (by decide +kernel) (pa_cons (pe_op (op_addK (K := K) rfl) (pe_op (op_addK (K := K) rfl) (pe_op op_mulX (pv 2) (pv 2)) (pe_op op_mulX pe_int (pe_dget (hu_of hr) (pv 0) pe_str (fun _ _ => rfl)))) pe_int) pa_nil)) pe_int))
      (pss_cons (ps_set (i := 2) sc__law_draw.nd rfl (by first | exact Or.inl rfl | exact Or.inr rfl) (pe_op op_mod (pe_callTy cr_intX (by rfl) T.m_int (by decide +kernel) (pa_cons (pe_op op_mulX (pv 2) pe_int) pa_nil)) pe_int))
      (pss_one (ps_ret (pe_op op_mod (pe_callTy cr_intX (by rfl) T.m_int (by decide +kernel) (pa_cons (pe_op op_fdivN (pv 2) pe_int) pa_nil)) (pv 1)))))))))), fun W es P hC => ?_⟩
  obtain ⟨d, c, m, rfl, hk, h1, h2, q⟩ := hC
  try dsimp only [cx_K, cx_w]
  refine ds_exact2 hk fun ns mm kk hl => ?_
  refine ds_seq (ds_draws2 hk rfl hl ?_)
  walk_at "ka"
  refine de_draws2 hk rfl ?_
  walk_at "ka"
  refine de_mixed2 hk rfl ?_
  walk_at "ka"
  refine de_draws2 hk rfl ?_
  refine opd_mulI (.inl ⟨by decide, by decide⟩) ?_
  walk_at "ka"
  refine ds_cut (fun W' Δ' => ∃ ns' x y, ns'.length ≤ 64 ∧ W' = W.exact2 hk ns' mm (kk + 1) ∧ Δ' = [some (.raw (.ref d)), some (.dat (.int m)), some (.dat (.int x)), y]) ?_ ?_
  · walk_at "ka"
    refine de_cells2 hk rfl ?_
    walk_at "ka"
    refine opd_cells2 hk ?_
    refine ⟨_, rfl, fun e => ?_, fun e => ds_next ⟨ns, _, none, hl, rfl, rfl⟩⟩
    obtain ⟨ns', z, rfl⟩ : ∃ ns' z, ns = ns' ++ [z] := by
      rcases List.eq_nil_or_concat ns with h | ⟨a, b, h⟩
      · rw [h] at e
        simp at e
      · exact ⟨a, b, by rw [h, List.concat_eq_append]⟩
    have hl' : ns'.length < 64 := by
      rw [List.length_append] at hl
      have : [z].length = 1 := rfl
      omega
    refine ds_seq (ds_pop2 hk rfl hl ?_)
    refine ds_seq ?_
    walk_at "ka"
    refine opd_IC ⟨by decide, by decide, by decide⟩ ?_
    walk_at "ka"
    refine ⟨fun e2 => ?_, fun e2 => ?_⟩
    · refine ds_seq (ds_push2 hk rfl hl' ?_)
      walk_at "ka"
      refine opd_IC ⟨?_, ?_⟩ ⟨_, rfl, ?_⟩
      · omega
      · omega
      · walk_at "ka"
        refine opd_IC (by omega) ?_
        exact ⟨Le.exact2 hk, q _ (mod_lt h1).1 (mod_lt h1).2⟩
    · refine ds_next ?_
      walk_at "ka"
      refine opd_IC (by decide) ?_
      walk_at "ka"
      exact ⟨ns', _, _, by omega, rfl, rfl⟩
  · rintro W' Δ' ⟨ns', x, y, hl', rfl, rfl⟩
    walk_at "ka"
    refine opd_mulI (.inr (by decide)) ?_
    walk_at "ka"
    refine opd_IC (by decide) ?_
    walk_at "ka"
    have b1 := mod_lt (z := x * 40692 + 59) (m := 2147483579) (by decide)
    refine opd_mulI (.inl ⟨by omega, by omega⟩) ?_
    walk_at "ka"
    refine de_draws2 hk rfl ?_
    refine opd_mulI (.inl ⟨by decide, by decide⟩) ?_
    walk_at "ka"
    refine opd_IC (by decide) ?_
    walk_at "ka"
    refine opd_mulI (.inr (by decide)) ?_
    walk_at "ka"
    refine opd_IC (by decide) ?_
    walk_at "ka"
    refine opd_IC ⟨by decide, by decide⟩ ?_
    walk_at "ka"
    refine opd_IC (by omega) ?_
    exact ⟨Le.exact2 hk, q _ (mod_lt h1).1 (mod_lt h1).2⟩

def C__law_pick : Con := fun W es P => ∃ d c s ds, es = [.raw (.ref d), .dat s] ∧ (s = .list ds ∨ s = .tuple ds) ∧ HasDeck2 W d c ∧ 1 ≤ ds.length ∧ ds.length < 100000 ∧ ∀ x ∈ ds, P (.dat x)
theorem ok__law_pick (T : Tx K mg) : FnOk P w K mg base CX0 2 T.f__law_pick T.d__law_pick ["deck", "some"] (SpC K C__law_pick) := by
  refine kfn T.F__law_pick sc__law_pick (fun W es P ⟨_, _, _, _, h, _⟩ => by rw [h]; rfl) fun cdv A outer s H E hr => ⟨_, (pss_one (ps_ret (pe_ix (ix_K (K := K) rfl) (pv 1) (pe_call (ok__law_draw T) hr (by rfl) T.g__law_draw T.F__law_draw.kp T.b__law_draw .nil pass0 (pa_cons (pv 0) (pa_cons (pe_callB (cr_lenK (K := K) rfl) (by rfl) T.m_len (by decide +kernel) (pa_cons (pv 1) pa_nil)) pa_nil))) (fun _ _ => rfl)))), fun W es P hC => ?_⟩
  obtain ⟨d, c, x, ds, rfl, hx, hk, h1, h2, q⟩ := hC
  try dsimp only [cx_K, cx_w]
  have at_ : ∀ r : Int, 0 ≤ r → r < (ds.length : Int) → ∃ y, atI ds r = some y ∧ y ∈ ds := fun r r1 r2 => by
    have hl : r.toNat < ds.length := by omega
    refine ⟨ds[r.toNat], ?_, List.getElem_mem hl⟩
    have := atI_nat (List.getElem?_eq_getElem hl)
    rw [Int.toNat_of_nonneg r1] at this
    exact this
  rcases hx with rfl | rfl
  · walk_at "ka"
    refine ⟨d, c, _, rfl, hk, by omega, by omega, fun r r1 r2 => ?_⟩
    obtain ⟨y, e, m⟩ := at_ r r1 r2
    exact opd_ixL e ⟨Wd.Le.refl W, q y m⟩
  · walk_at "ka"
    refine ⟨d, c, _, rfl, hk, by omega, by omega, fun r r1 r2 => ?_⟩
    obtain ⟨y, e, m⟩ := at_ r r1 r2
    exact opd_ixT e ⟨Wd.Le.refl W, q y m⟩

def C__law_shuffled : Con := fun W es P => ∃ d c r, es = [.raw (.ref d), .dat (.list (intsD r))] ∧ HasDeck2 W d c ∧ r.length ≤ 60 ∧ ∀ s, s.Perm r → P (.dat (.list (intsD s)))
theorem ok__law_shuffled (T : Tx K mg) : FnOk P w K mg base CX0 2 T.f__law_shuffled T.d__law_shuffled ["deck", "some"] (SpC K C__law_shuffled) := by
  refine kfn T.F__law_shuffled sc__law_shuffled (fun W es P ⟨_, _, _, h, _⟩ => by rw [h]; rfl) fun cdv A outer s H E hr => ⟨_, (pss_cons (ps_par (i := 2) (j := 3) (by rfl) sc__law_shuffled.nd rfl rfl (by decide) rfl rfl (pa_cons (pe_callTy (cr_lstK (K := K) rfl) (by rfl) T.m_list (by decide +kernel) (pa_cons (pv 1) pa_nil)) (pa_cons (pe_lst pa_nil) pa_nil)) (by rfl))
      (pss_cons (ps_for PassesOwn.never rfl (pi_range1 rfl T.m_range (pa_cons (pe_callB (cr_lenK (K := K) rfl) (by rfl) T.m_len (by decide +kernel) (pa_cons (pv 2) pa_nil)) pa_nil)) (pg_name (i := 4) sc__law_shuffled.nd rfl (by first | exact Or.inl rfl | exact Or.inr rfl)) (pss_one (ps_expr (pe_bm PySem.F.plainAttrs_list PySem.F.slot_list_append PySem.F.type_list_append mt_append (pv 3) (pa_cons (pe_bm PySem.F.plainAttrs_list PySem.F.slot_list_pop PySem.F.type_list_pop mt_popAt (pv 2) (pa_cons (pe_call (ok__law_draw T) hr (by rfl) T.g__law_draw T.F__law_draw.kp T.b__law_draw .nil pass0 (pa_cons (pv 0) (pa_cons (pe_callB (cr_lenK (K := K) rfl) (by rfl) T.m_len (by decide +kernel) (pa_cons (pv 2) pa_nil)) pa_nil))) pa_nil)) pa_nil)))))
      (pss_one (ps_ret (pv 3))))), fun W es P hC => ?_⟩
  obtain ⟨d, c, r, rfl, hk, h2, q⟩ := hC
  try dsimp only [cx_K, cx_w]
  refine ds_seq (ds_parNN (dn_list ?_))
  walk_at "ka"
  refine ⟨intsD r, .inl rfl, fun p hp => dn_nil fun p2 hp2 => ?_⟩
  refine ds_seq (ds_for ?_)
  walk_at "ka"
  refine cal_lenH (Wd.Keeps.self.hide) ?_
  walk_at "ka"
  refine ⟨by rw [intsD_len]; omega, fun i W' Δ' => ∃ ls rs x4, W' = (W.hide p (knL K (intsD ls))).hide p2 (knL K (intsD rs)) ∧ (rs ++ ls).Perm r ∧ rs.length = i ∧ Δ' = [some (.raw (.ref d)), some (.dat (.list (intsD r))), some (.raw (.ref p)), some (.raw (.ref p2)), x4], ⟨r, [], none, rfl, List.Perm.refl _, rfl, rfl⟩, ?_, ?_⟩
  · rintro i e W' Δ' he ⟨ls, rs, x4, rfl, hpm, hlen, rfl⟩
    obtain ⟨hi, rfl⟩ := rgN_at he
    rw [intsD_len] at hi
    have hsum := hpm.length_eq
    rw [List.length_append] at hsum
    refine ⟨_, _, tg_name, ?_⟩
    refine ds_mv (i := 3) (j := 2) rfl rfl (by rw [intsD_len]; omega) ?_
    walk_at "ka"
    refine cal_lenH (Wd.Keeps.self.hide) ?_
    walk_at "ka"
    refine ⟨d, c, _, rfl, hk.hide.hide, by rw [intsD_len]; omega, by rw [intsD_len]; omega, fun k k1 k2 => ?_⟩
    rw [intsD_len] at k2
    refine ⟨k.toNat, .int (ls.getD k.toNat 0), by rw [Int.toNat_of_nonneg k1], by omega, intsD_get (getD_get (by omega)), ?_⟩
    refine ⟨ls.eraseIdx k.toNat, rs ++ [ls.getD k.toNat 0], _, ?_, ?_, by rw [List.length_append, hlen]; rfl, rfl⟩
    · have a1 : (intsD ls).eraseIdx k.toNat = intsD (ls.eraseIdx k.toNat) := ints_erase ls k.toNat
      have a2 : intsD rs ++ [PyData.int (ls.getD k.toNat 0)] = intsD (rs ++ [ls.getD k.toNat 0]) := by
        unfold intsD
        rw [List.map_append]
        rfl
      rw [a1, a2]
    · refine List.Perm.trans ?_ hpm
      rw [List.append_assoc]
      refine List.Perm.append_left _ ?_
      rw [List.getD_eq_getElem?_getD, List.getElem?_eq_getElem (by omega)]
      exact erase_perm (by omega)
  · rintro W' Δ' ⟨ls, rs, x4, rfl, hpm, hlen, rfl⟩
    have hls : ls = [] := by
      have := hpm.length_eq
      rw [List.length_append, hlen, List.length_map, rgN_length, intsD_len] at this
      exact List.length_eq_zero_iff.mp (by omega)
    subst hls
    rw [List.append_nil] at hpm
    refine ds_see (i := 3) hp2 rfl ?_
    walk_at "ka"
    exact ⟨(Wd.Le.refl W).hide hp, q rs hpm⟩

theorem list_set_swap {α : Type} {r : List α} {k : Nat} {a b : α} (ha : r[k + 1]? = some a) (hb : r[k]? = some b) : (r.set k a).set (k + 1) b = r.take k ++ [a, b] ++ r.drop (k + 2) := by
  have hk : k + 1 < r.length := by
    refine Nat.lt_of_not_le fun h => ?_
    rw [List.getElem?_eq_none h] at ha
    cases ha
  refine List.ext_getElem? fun i => ?_
  rw [List.getElem?_set, List.getElem?_set]
  rw [List.length_set]
  rcases Nat.lt_trichotomy i k with h | h | h
  · rw [if_neg (by omega), if_neg (by omega), List.append_assoc, List.getElem?_append_left (by rw [List.length_take]; omega), List.getElem?_take, if_pos h]
  · subst h
    rw [if_neg (by omega), if_pos rfl, if_pos (by omega), List.append_assoc, List.getElem?_append_right (by rw [List.length_take]; omega), List.length_take, show i - min i r.length = 0 by omega]
    rfl
  · by_cases h2 : i = k + 1
    · subst h2
      rw [if_pos rfl, if_pos hk, List.append_assoc, List.getElem?_append_right (by rw [List.length_take]; omega), List.length_take, show k + 1 - min k r.length = 1 by omega]
      rfl
    · rw [if_neg (by omega), if_neg (by omega), List.getElem?_append_right (by rw [List.length_append, List.length_take]; simp only [List.length_cons, List.length_nil]; omega), List.length_append, List.length_take, List.getElem?_drop]
      congr 1
      simp only [List.length_cons, List.length_nil]
      omega
def C__law_row : Con := fun W es P => ∃ d c n, es = [.raw (.ref d), .dat (.int n)] ∧ HasDeck2 W d c ∧ 1 ≤ n ∧ n ≤ 60 ∧ ∀ r, RowOk n r → P (.dat (.tuple (intsD r)))
theorem ok__law_row (T : Tx K mg) : FnOk P w K mg base CX0 3 T.f__law_row T.d__law_row ["deck", "n"] (SpC K C__law_row) := by
  refine kfn T.F__law_row sc__law_row (fun W es P ⟨_, _, _, h, _⟩ => by rw [h]; rfl) fun cdv A outer s H E hr => ⟨_, (pss_cons (ps_par (i := 2) (j := 3) (by rfl) sc__law_row.nd rfl rfl (by decide) rfl rfl (pa_cons (pe_call (ok__law_draw T) (hr.mono (by decide)) (by rfl) T.g__law_draw T.F__law_draw.kp T.b__law_draw .nil pass0 (pa_cons (pv 0) (pa_cons pe_int pa_nil))) (pa_cons (pe_listRg rfl (by rfl) T.m_list (prg_2 (by rfl) T.m_range pe_int (pe_op (op_addK (K := K) rfl) (pv 1) pe_int))) pa_nil)) (by rfl))
      (pss_cons (ps_if (pt_cmpR op_lt (pv 2) pe_int (nomark _)) (pss_one (ps_ret (pe_callTy (cr_tupK (K := K) rfl) (by rfl) T.m_tuple (by decide +kernel) (pa_cons (pe_call (ok__law_shuffled T) hr (by rfl) T.g__law_shuffled T.F__law_shuffled.kp T.b__law_shuffled .nil pass0 (pa_cons (pv 0) (pa_cons (pv 3) pa_nil))) pa_nil)))) pss_nil)
      (pss_cons (ps_if (pt_cmpR (op_eqK (K := K) rfl hr.units) (pv 2) pe_int (nomark _)) (pss_one (ps_set (i := 3) sc__law_row.nd rfl (by first | exact Or.inl rfl | exact Or.inr rfl) (pe_revK (K := K) rfl (pv 3)))) pss_nil)
      (pss_cons (ps_for PassesOwn.never rfl (pi_range1 rfl T.m_range (pa_cons (pe_ifExp (pt_cmpR op_gt (pv 1) pe_int (nomark _)) (pe_call (ok__law_draw T) (hr.mono (by decide)) (by rfl) T.g__law_draw T.F__law_draw.kp T.b__law_draw .nil pass0 (pa_cons (pv 0) (pa_cons pe_int pa_nil))) pe_int) pa_nil)) (pg_name (i := 4) sc__law_row.nd rfl (by first | exact Or.inl rfl | exact Or.inr rfl)) (pss_cons (ps_set (i := 5) sc__law_row.nd rfl (by first | exact Or.inl rfl | exact Or.inr rfl) (pe_call (ok__law_draw T) (hr.mono (by decide)) (by rfl) T.g__law_draw T.F__law_draw.kp T.b__law_draw .nil pass0 (pa_cons (pv 0) (pa_cons (pe_op op_sub (pv 1) pe_int) pa_nil))))
      (pss_one (ps_asg (pe_tup (pa_cons (pe_ix (ix_K (K := K) rfl) (pv 3) (pe_op (op_addK (K := K) rfl) (pv 5) pe_int) (fun _ _ => rfl)) (pa_cons (pe_ix (ix_K (K := K) rfl) (pv 3) (pv 5) (fun _ _ => rfl)) pa_nil))) (pg_tupK (K := K) rfl (pg_tup (n := 2) rfl (pgs_cons (pg_sub (pv 3) (pv 5) set_list) (pgs_cons (pg_sub (pv 3) (pe_op (op_addK (K := K) rfl) (pv 5) pe_int) set_list) pgs_nil))))))))
      (pss_one (ps_ret (pe_callTy (cr_tupK (K := K) rfl) (by rfl) T.m_tuple (by decide +kernel) (pa_cons (pv 3) pa_nil)))))))), fun W es P hC => ?_⟩
  obtain ⟨d, c, n, rfl, hk, h1, h2, q⟩ := hC
  try dsimp only [cx_K, cx_w]
  refine ds_seq (ds_parRg ?_)
  walk_at "ka"
  refine ⟨d, c, 4, rfl, hk, by omega, by omega, fun way w1 w2 => ?_⟩
  walk_at "ka"
  refine ⟨.of_le (by omega) (by omega) (by omega) (by omega), fun p hp => ?_⟩
  rw [show n + 1 - 1 = n by omega, show (rgN 1 n.toNat).map PyData.int = intsD (rgN 1 n.toNat) from rfl]
  have first : RowOk n (rgN 1 n.toNat) := .first (by omega) h2
  refine ds_seq ?_
  walk_at "ka"
  refine ⟨fun e0 => ?_, fun e0 => ?_⟩
  · refine ds_see (i := 3) hp rfl ?_
    walk_at "ka"
    refine ⟨d, c, _, rfl, hk, by rw [rgN_length]; omega, fun s hs => ?_⟩
    walk_at "ka"
    exact ⟨Wd.Le.refl _, q s (first.of_perm hs)⟩
  · refine ds_next ?_
    refine ds_cut (fun W' Δ' => ∃ p2 r x4 x5, W' = W.hide p2 (knL K (intsD r)) ∧ W.hid p2 = false ∧ RowOk n r ∧ Δ' = [some (.raw (.ref d)), some (.dat (.int n)), some (.dat (.int way)), some (.raw (.ref p2)), x4, x5]) ?_ ?_
    · walk_at "ka"
      refine opd_eq (by rfl) (by rfl) ⟨_, rfl, fun e2 => ?_, fun e2 => ?_⟩
      · refine ds_see (i := 3) hp rfl ?_
        refine ds_setN (dn_revL ?_)
        walk_at "ka"
        refine fun p2 hp2 => ⟨p2, (rgN 1 n.toNat).reverse, _, _, ?_, hp2, first.rev, rfl⟩
        rw [intsD_rev]
      · refine ds_next ⟨p, _, _, _, rfl, hp, first, rfl⟩
    · rintro W' Δ' ⟨p2, r, x4, x5, rfl, hp2, ho, rfl⟩
      refine ds_cut (fun W' Δ' => ∃ r x4 x5, W' = W.hide p2 (knL K (intsD r)) ∧ RowOk n r ∧ Δ' = [some (.raw (.ref d)), some (.dat (.int n)), some (.dat (.int way)), some (.raw (.ref p2)), x4, x5]) ?_ ?_
      · refine ds_for ?_
        walk_at "ka"
        refine ⟨fun e1 => ?_, fun e1 => ?_⟩
        · have e1 : 1 < n := of_decide_eq_true e1
          walk_at "ka"
          refine ⟨d, c, 6, rfl, hk.hide, by omega, by omega, fun r8 a8 b8 => ?_⟩
          walk_at "ka"
          refine ⟨by omega, fun i W' Δ' => ∃ r x4 x5, W' = W.hide p2 (knL K (intsD r)) ∧ RowOk n r ∧ Δ' = [some (.raw (.ref d)), some (.dat (.int n)), some (.dat (.int way)), some (.raw (.ref p2)), x4, x5], ⟨r, _, _, rfl, ho, rfl⟩, ?_, ?_⟩
          · rintro i e W' Δ' he ⟨r, x4, x5, rfl, ho, rfl⟩
            obtain ⟨hi, rfl⟩ := rgN_at he
            have hl := ho.len
            refine ⟨_, _, tg_name, ?_⟩
            walk_at "ka"
            refine ⟨d, c, n - 1, rfl, hk.hide, by omega, by omega, fun at_ b1 b2 => ?_⟩
            obtain ⟨k, rfl⟩ : ∃ k : Nat, at_ = k := ⟨at_.toNat, by omega⟩
            refine ds_swap rfl ?_
            walk_at "ka"
            rw [show (k : Int) + 1 = ((k + 1 : Nat) : Int) from rfl]
            have g1 := intsD_get (getD_get (r := r) (i := k + 1) (by omega))
            have g0 := intsD_get (getD_get (r := r) (i := k) (by omega))
            refine opd_ixH Wd.Keeps.self (atI_nat g1) ?_
            refine ⟨_, rfl, ?_⟩
            walk_at "ka"
            refine opd_ixH Wd.Keeps.self (atI_nat g0) ?_
            refine ⟨_, rfl, ?_⟩
            walk_at "ka"
            refine ⟨by rw [intsD_len]; omega, ?_⟩
            walk_at "ka"
            refine ⟨by rw [intsD_len]; show k + 1 < r.length; omega, exch r k, _, _, ?_, ho.exch (by omega), rfl⟩
            show W.hide p2 (knL K (((intsD r).set k (PyData.int (r.getD (k + 1) 0))).set (k + 1) (PyData.int (r.getD k 0)))) = _
            rw [list_set_swap g1 g0, intsD_take, intsD_drop]
            have e : intsD (r.take k) ++ [PyData.int (r.getD (k + 1) 0), .int (r.getD k 0)] ++ intsD (r.drop (k + 2)) = intsD (exch r k) := by
              show intsD (r.take k) ++ intsD [r.getD (k + 1) 0, r.getD k 0] ++ intsD (r.drop (k + 2)) = _
              rw [intsD_append, intsD_append]
              rfl
            rw [e]
          · rintro W' Δ' h
            exact h
        · walk_at "ka"
          refine ⟨by decide, fun i W' Δ' => W' = W.hide p2 (knL K (intsD r)) ∧ Δ' = [some (.raw (.ref d)), some (.dat (.int n)), some (.dat (.int way)), some (.raw (.ref p2)), x4, x5], ⟨rfl, rfl⟩, ?_, ?_⟩
          · rintro i e W' Δ' he ⟨rfl, rfl⟩
            obtain ⟨hi, rfl⟩ := rgN_at he
            exact absurd hi (Nat.not_lt_zero i)
          · rintro W' Δ' ⟨rfl, rfl⟩
            exact ⟨r, _, _, rfl, ho, rfl⟩
      · rintro W' Δ' ⟨r, x4, x5, rfl, ho, rfl⟩
        refine ds_see (i := 3) hp2 rfl ?_
        walk_at "ka"
        exact ⟨Wd.Le.refl _, q r ho⟩

def C__law_arc : Con := fun W es P => ∃ d c n, es = [.raw (.ref d), .dat (.int n)] ∧ HasDeck2 W d c ∧ 2 ≤ n ∧ n ≤ 40 ∧ ∀ a b S, ArcOk n a b S → P (.dat (arcD a b S))
theorem ok__law_arc (T : Tx K mg) : FnOk P w K mg base CX0 3 T.f__law_arc T.d__law_arc ["deck", "n"] (SpC K C__law_arc) := by
  refine kfn T.F__law_arc sc__law_arc (fun W es P ⟨_, _, _, h, _⟩ => by rw [h]; rfl) fun cdv A outer s H E hr => ⟨_, (pss_cons (ps_set (i := 2) sc__law_arc.nd rfl (by first | exact Or.inl rfl | exact Or.inr rfl) (pe_op (op_addK (K := K) rfl) pe_int (pe_call (ok__law_draw T) (hr.mono (by decide)) (by rfl) T.g__law_draw T.F__law_draw.kp T.b__law_draw .nil pass0 (pa_cons (pv 0) (pa_cons (pe_op op_sub (pv 1) pe_int) pa_nil)))))
      (pss_cons (ps_set (i := 3) sc__law_arc.nd rfl (by first | exact Or.inl rfl | exact Or.inr rfl) (pe_op (op_addK (K := K) rfl) (pe_op (op_addK (K := K) rfl) (pv 2) pe_int) (pe_call (ok__law_draw T) (hr.mono (by decide)) (by rfl) T.g__law_draw T.F__law_draw.kp T.b__law_draw .nil pass0 (pa_cons (pv 0) (pa_cons (pe_callB (cr_min2 rfl) (by rfl) T.m_min (by decide +kernel) (pa_cons (pe_op op_sub (pv 1) (pv 2)) (pa_cons (pe_call (ok__law_pick T) hr (by rfl) T.g__law_pick T.F__law_pick.kp T.b__law_pick .nil pass0 (pa_cons (pv 0) (pa_cons (pe_lst (pa_cons (pv 1) (pa_cons pe_int (pa_cons pe_int (pa_cons pe_int pa_nil))))) pa_nil))) pa_nil))) pa_nil)))))
      (pss_one (ps_ret (pe_tup (pa_cons (pv 2) (pa_cons (pv 3) (pa_cons (pe_callTy (cr_tupK (K := K) rfl) (by rfl) T.m_tuple (by decide +kernel) (pa_cons (pe_lc (own := [("p", 4)]) rfl sc__law_arc.nd (pi_range2 rfl T.m_range (pa_cons (pe_op (op_addK (K := K) rfl) (pv 2) pe_int) (pa_cons (pv 3) pa_nil))) (blkOk_by (N := N__law_arc) (sc := defScope s__law_arc) (by decide +kernel)) (fun _ _ _ _ _ => (pg_name (i := 4) sc__law_arc.nd rfl (by first | exact Or.inl rfl | exact Or.inr rfl))) (fun _ _ _ _ _ => (pts_one (pt_cmpR (op_eqK (K := K) rfl hr.units) (pe_call (ok__law_draw T) (hr.mono (by decide)) (by rfl) T.g__law_draw T.F__law_draw.kp T.b__law_draw .nil pass0 (pa_cons (pv 0) (pa_cons pe_int pa_nil))) pe_int (nomark _)))) (fun _ _ _ _ _ => (pv 4))) pa_nil)) pa_nil)))))))), fun W es P hC => ?_⟩
  obtain ⟨d, c, n, rfl, hk, h1, h2, q⟩ := hC
  try dsimp only [cx_K, cx_w]
  walk_at "ka"
  refine ⟨d, c, _, rfl, hk, by omega, by omega, fun r1 ra rb => ?_⟩
  walk_at "ka"
  refine ⟨d, c, _, _, rfl, .inl rfl, hk, by simp, by simp, fun x hx => ?_⟩
  obtain ⟨z, rfl, hz1, hz2⟩ : ∃ z, x = .int z ∧ 1 ≤ z ∧ z ≤ 40 := by
    simp only [List.mem_cons, List.not_mem_nil, or_false] at hx
    rcases hx with rfl | rfl | rfl | rfl
    · exact ⟨_, rfl, by omega, by omega⟩
    · exact ⟨_, rfl, by omega, by omega⟩
    · exact ⟨_, rfl, by omega, by omega⟩
    · exact ⟨_, rfl, by omega, by omega⟩
  walk_at "ka"
  refine ⟨d, c, _, rfl, hk, by omega, by omega, fun few rg rh => ?_⟩
  obtain ⟨b, hbe⟩ : ∃ b, b = 1 + r1 + 1 + few := ⟨_, rfl⟩
  have hb1 : 1 + r1 < b := by omega
  have hb2 : b ≤ n := by omega
  walk_at "ka"
  rw [← hbe]
  refine de_lc ?_
  walk_at "ka"
  refine ⟨1 + r1 + 1, b, rfl, by omega, by omega, by rw [List.length_map, rgN_length]; omega, fun i acc => ∃ S : List Int, acc = intsD S ∧ S.Pairwise (· < ·) ∧ ∀ p ∈ S, 1 + r1 < p ∧ p < 1 + r1 + 1 + i, ⟨[], rfl, .nil, by simp⟩, fun i e acc W' he hA hW => ?_, fun acc hA => ?_⟩
  · obtain ⟨S, rfl, hs1, hs2⟩ := hA
    rw [List.getElem?_map] at he
    have hi : i < (b - (1 + r1 + 1)).toNat := by
      refine Nat.lt_of_not_le fun z => ?_
      rw [List.getElem?_eq_none (by rw [rgN_length]; exact z)] at he
      cases he
    rw [rgN_get hi] at he
    cases he
    refine ⟨_, _, tg_name, by simp, ?_⟩
    have yes : ∃ S' : List Int, intsD S ++ [PyData.int (1 + r1 + 1 + i)] = intsD S' ∧ S'.Pairwise (· < ·) ∧ ∀ p ∈ S', 1 + r1 < p ∧ p < 1 + r1 + 1 + (i + 1 : Nat) := by
      refine ⟨S ++ [1 + r1 + 1 + i], by unfold intsD; rw [List.map_append]; rfl, ?_, fun p hp => ?_⟩
      · rw [List.pairwise_append]
        refine ⟨hs1, List.pairwise_singleton .., fun p hp x hx => ?_⟩
        rw [List.mem_singleton] at hx
        have := hs2 p hp
        omega
      · rcases List.mem_append.mp hp with hp | hp
        · have := hs2 p hp
          omega
        · rw [List.mem_singleton] at hp
          omega
    have no : ∃ S' : List Int, intsD S = intsD S' ∧ S'.Pairwise (· < ·) ∧ ∀ p ∈ S', 1 + r1 < p ∧ p < 1 + r1 + 1 + (i + 1 : Nat) := ⟨S, rfl, hs1, fun p hp => by have := hs2 p hp; omega⟩
    walk_at "ka"
    refine ⟨d, c, _, rfl, hk.hid hW, by omega, by omega, fun r4 ri rj => ?_⟩
    walk_at "ka"
    refine opd_eq (by rfl) (by rfl) ⟨_, rfl, fun e3 => ?_, fun e3 => no⟩
    walk_at "ka"
    exact yes
  · obtain ⟨S, rfl, hs1, hs2⟩ := hA
    walk_at "ka"
    refine ⟨Wd.Le.refl W, q (1 + r1) b S ⟨by omega, by omega, by omega, hs1, fun p hp => ?_⟩⟩
    have := hs2 p hp
    rw [List.length_map, rgN_length] at this
    omega

def tupI (S : List Int) : PyData := .tuple (intsD S)
theorem arcsAt_small {a b n : Int} (h1 : 1 ≤ a) (h2 : b ≤ n) (h3 : n ≤ 8) : (arcsAt a b).length ≤ 64 := by
  rw [arcsAt_len]
  exact Nat.le_trans (Nat.pow_le_pow_right (by decide) (show (b - (a + 1)).toNat ≤ 6 by omega)) (by decide)
theorem flat_len {α β : Type} {c : Nat} {f : α → List β} : ∀ {l : List α}, (∀ x ∈ l, (f x).length ≤ c) → (l.flatMap f).length ≤ l.length * c
  | [], _ => Nat.zero_le _
  | x :: l, h => by
    have h1 := h x (by simp)
    have h2 := flat_len (l := l) (f := f) (c := c) fun y hy => h y (by simp [hy])
    rw [List.flatMap_cons, List.length_append, List.length_cons, Nat.add_mul]
    omega
theorem arcsTo_small {n : Int} (h3 : n ≤ 8) {i : Nat} (hi : (i : Int) ≤ n) : (arcsTo n (rgN 1 i)).length ≤ 8 * 512 := by
  refine Nat.le_trans (flat_len (c := 512) fun a ha => ?_) (Nat.mul_le_mul_right _ (by rw [rgN_length]; omega))
  rw [rgN_mem] at ha
  refine Nat.le_trans (flat_len (c := 64) fun b hb => ?_) (by rw [rgN_length]; omega)
  rw [rgN_mem] at hb
  exact arcsAt_small (n := n) (by omega) (by omega) h3
def C__law_arcs : Con := fun _ es P => ∃ n : Int, es = [.dat (.int n)] ∧ 1 ≤ n ∧ n ≤ 8 ∧ P (.dat (.list (((arcsN n).map arcT).mergeSort (PySem.W.dataLe false id))))
theorem ok__law_arcs (T : Tx K mg) : FnOk P w K mg base CX0 1 T.f__law_arcs T.d__law_arcs ["n"] (SpC K C__law_arcs) := by
  refine kfn T.F__law_arcs sc__law_arcs (fun W es P ⟨_, h, _⟩ => by rw [h]; rfl) fun cdv A outer s H E hr => ⟨_, (pss_cons (ps_set (i := 1) sc__law_arcs.nd rfl (by first | exact Or.inl rfl | exact Or.inr rfl) (pe_lst pa_nil))
      (pss_cons (ps_for PassesOwn.never rfl (pi_range2 rfl T.m_range (pa_cons pe_int (pa_cons (pe_op (op_addK (K := K) rfl) (pv 0) pe_int) pa_nil))) (pg_name (i := 2) sc__law_arcs.nd rfl (by first | exact Or.inl rfl | exact Or.inr rfl)) (pss_one (ps_for PassesOwn.never rfl (pi_range2 rfl T.m_range (pa_cons (pe_op (op_addK (K := K) rfl) (pv 2) pe_int) (pa_cons (pe_op (op_addK (K := K) rfl) (pv 0) pe_int) pa_nil))) (pg_name (i := 3) sc__law_arcs.nd rfl (by first | exact Or.inl rfl | exact Or.inr rfl)) (pss_cons (ps_set (i := 4) sc__law_arcs.nd rfl (by first | exact Or.inl rfl | exact Or.inr rfl) (pe_lst (pa_cons (pe_tup pa_nil) pa_nil)))
      (pss_cons (ps_for PassesOwn.never rfl (pi_range2 rfl T.m_range (pa_cons (pe_op (op_addK (K := K) rfl) (pv 2) pe_int) (pa_cons (pv 3) pa_nil))) (pg_name (i := 5) sc__law_arcs.nd rfl (by first | exact Or.inl rfl | exact Or.inr rfl)) (pss_one (ps_set (i := 4) sc__law_arcs.nd rfl (by first | exact Or.inl rfl | exact Or.inr rfl) (pe_op (op_addK (K := K) rfl) (pv 4) (pe_lc (own := [("lot", 6)]) rfl sc__law_arcs.nd (pi_seqK (K := K) rfl (pv 4)) (blkOk_by (N := N__law_arcs) (sc := defScope s__law_arcs) (by decide +kernel)) (fun _ _ _ _ _ => (pg_name (i := 6) sc__law_arcs.nd rfl (by first | exact Or.inl rfl | exact Or.inr rfl))) (fun _ _ _ _ _ => pts_nil) (fun _ _ _ _ _ => (pe_op (op_addK (K := K) rfl) (pv 6) (pe_tup (pa_cons (pv 5) pa_nil)))))))))
      (pss_one (ps_expr (pe_bm PySem.F.plainAttrs_list PySem.F.slot_list_extend PySem.F.type_list_extend mt_extend (pv 1) (pa_cons (pe_lc (own := [("lot", 6)]) rfl sc__law_arcs.nd (pi_seqK (K := K) rfl (pv 4)) (blkOk_by (N := N__law_arcs) (sc := defScope s__law_arcs) (by decide +kernel)) (fun _ _ _ _ _ => (pg_name (i := 6) sc__law_arcs.nd rfl (by first | exact Or.inl rfl | exact Or.inr rfl))) (fun _ _ _ _ _ => pts_nil) (fun _ _ _ _ _ => (pe_tup (pa_cons (pv 2) (pa_cons (pv 3) (pa_cons (pv 6) pa_nil)))))) pa_nil)))))))))
      (pss_one (ps_ret (pe_callB (cr_sortedZ (K := K) (w := w) rfl rfl rfl hr.units) (by rfl) T.m_sorted (by decide +kernel) (pa_cons (pv 1) pa_nil)))))), fun W es P hC => ?_⟩
  obtain ⟨n, rfl, h0, h3, q⟩ := hC
  try dsimp only [cx_K, cx_w]
  refine ds_seq (ds_newL fun p hp => ?_)
  refine ds_seq (ds_for ?_)
  walk_at "ka"
  refine ⟨1, n + 1, rfl, by omega, by omega, fun i W' Δ' => W' = W.hide p (knL K ((arcsTo n (rgN 1 i)).map arcT)) ∧ ∃ x2 x3 x4 x5, Δ' = [some (.dat (.int n)), some (.raw (.ref p)), x2, x3, x4, x5, none], ⟨rfl, none, none, none, none, rfl⟩, ?_, ?_⟩
  · rintro i e W' Δ' he ⟨rfl, x2, x3, x4, x5, rfl⟩
    obtain ⟨hi, rfl⟩ := rgN_at he
    have hi2 : 1 + (i : Int) ≤ n := by omega
    refine ⟨_, _, tg_name, ?_⟩
    generalize ha : (1 : Int) + (i : Int) = a
    have hz := arcsTo_small (n := n) h3 (i := i) (by omega)
    refine ds_for ?_
    walk_at "ka"
    refine ⟨a + 1, n + 1, rfl, by omega, by omega, fun j W' Δ' => W' = W.hide p (knL K ((arcsTo n (rgN 1 i) ++ (rgN (a + 1) j).flatMap (arcsAt a)).map arcT)) ∧ ∃ x3 x4 x5, Δ' = [some (.dat (.int n)), some (.raw (.ref p)), some (.dat (.int a)), x3, x4, x5, none], ⟨?_, x3, x4, x5, rfl⟩, ?_, ?_⟩
    · rw [show rgN (a + 1) 0 = [] from rfl, List.flatMap_nil, List.append_nil]
    · rintro j e W' Δ' he2 ⟨rfl, x3, x4, x5, rfl⟩
      obtain ⟨hj, rfl⟩ := rgN_at he2
      have hj2 : a + 1 + (j : Int) ≤ n := by omega
      refine ⟨_, _, tg_name, ?_⟩
      generalize hb : a + 1 + (j : Int) = b
      have hs := arcsAt_small (a := a) (b := b) (n := n) (by omega) (by omega) h3
      rw [arcsAt_len] at hs
      refine dq_set ?_
      refine de_lst ?_
      walk_at "ka"
      refine ds_seq (ds_for ?_)
      walk_at "ka"
      refine ⟨a + 1, b, rfl, by omega, by omega, fun k W' Δ' => W' = W.hide p (knL K ((arcsTo n (rgN 1 i) ++ (rgN (a + 1) j).flatMap (arcsAt a)).map arcT)) ∧ ∃ x5, Δ' = [some (.dat (.int n)), some (.raw (.ref p)), some (.dat (.int a)), some (.dat (.int b)), some (.dat (.list ((choL (rgN (a + 1) k)).map tupI))), x5, none], ⟨rfl, x5, rfl⟩, ?_, ?_⟩
      · rintro k e W' Δ' he3 ⟨rfl, x5, rfl⟩
        obtain ⟨hk, rfl⟩ := rgN_at he3
        have hk2 : (choL (rgN (a + 1) k)).length ≤ 64 := by
          rw [choL_len]
          exact Nat.le_trans (Nat.pow_le_pow_right (by decide) (Nat.le_of_lt hk)) hs
        refine ⟨_, _, tg_name, ?_⟩
        walk_at "ka"
        refine de_lcM (choL (rgN (a + 1) k)) (fun S => DV.dat (tupI S)) (fun _ => true) (fun S => tupI (S ++ [a + 1 + (k : Int)])) (di_seqL ?_) (by omega) ?_ ?_
        · walk_at "ka"
          exact List.map_map ..
        · intro S hS W'' hW
          refine ⟨_, _, tg_name, by simp, ?_⟩
          walk_at "ka"
          refine ⟨rfl, fun _ => ?_⟩
          walk_at "ka"
          have hz : S.length ≤ 100 := by
            obtain ⟨s1, s2⟩ := (choL_mem _ _ _).mp hS
            have := asc_len (a := a) (b := a + 1 + k) s1 fun p hp => by have := s2 p hp; omega
            have : k < 8 := by omega
            omega
          refine opd_addT (by rw [intsD_len]; simp; omega) ?_
          show DV.dat (.tuple (intsD S ++ intsD [a + 1 + (k : Int)])) = _
          rw [intsD_append]
          rfl
        · rw [List.filter_eq_self.mpr (fun _ _ => rfl)]
          refine opd_addL (by rw [List.length_map, List.length_map]; omega) ?_
          refine ⟨rfl, some (.dat (.int (a + 1 + (k : Int)))), ?_⟩
          rw [rgN_succ, choL_snoc, List.map_append, List.map_map]
          rfl
      · rintro W' Δ' ⟨rfl, x5, rfl⟩
        rw [List.length_map, rgN_length]
        refine ds_ext (i := 1) rfl ?_
        refine de_lcM (choL (rgN (a + 1) (b - (a + 1)).toNat)) (fun S => DV.dat (tupI S)) (fun _ => true) (fun S => arcD a b S) (di_seqL ?_) (by rw [choL_len]; omega) ?_ ?_
        · walk_at "ka"
          exact List.map_map ..
        · intro S hS W'' hW
          refine ⟨_, _, tg_name, by simp, ?_⟩
          walk_at "ka"
          refine ⟨rfl, fun _ => ?_⟩
          walk_at "ka"
          rfl
        · rw [List.filter_eq_self.mpr (fun _ _ => rfl)]
          have hf : ((rgN (a + 1) j).flatMap (arcsAt a)).length ≤ j * 64 := by
            refine Nat.le_trans (flat_len (c := 64) fun b hb => ?_) (by rw [rgN_length]; omega)
            rw [rgN_mem] at hb
            exact arcsAt_small (n := n) (by omega) (by omega) h3
          refine ⟨_, rfl, by rw [List.length_map, List.length_map, List.length_append, choL_len]; omega, ?_, _, _, _, rfl⟩
          rw [rgN_succ, hb, List.flatMap_append, ← List.append_assoc, List.map_append]
          congr 2
          congr 1
          simp [arcsAt, List.map_map]
          exact fun _ _ => rfl
    · rintro W' Δ' ⟨rfl, x3, x4, x5, rfl⟩
      rw [List.length_map, rgN_length]
      refine ⟨?_, _, _, _, _, rfl⟩
      rw [rgN_succ, ha]
      unfold arcsTo
      rw [List.flatMap_append]
      congr 3
      simp [show (n + 1 - (a + 1)).toNat = (n - a).toNat by omega]
  · rintro W' Δ' ⟨rfl, x2, x3, x4, x5, rfl⟩
    rw [List.length_map, rgN_length, show (n + 1 - 1).toNat = n.toNat by omega]
    refine ds_see (i := 1) hp rfl ?_
    walk_at "ka"
    have hA := arcT_arcs (arcsN n)
    refine cal_sortedZL hA.alike hA.sortable hA.dep ?_
    exact ⟨Wd.Le.refl W, q⟩

theorem lies3_short {o p q : Arc3} (hq : q ∈ short3 p) (h : lies3 o q = true) : lies3 o p = true := by
  unfold lies3 at h ⊢
  rw [Bool.and_eq_true, Bool.and_eq_true, decide_eq_true_iff, decide_eq_true_iff, decide_eq_true_iff] at h ⊢
  obtain ⟨h1, h2, h3⟩ := h
  have hh : p.1 ≤ q.1 ∧ q.2.1 ≤ p.2.1 ∧ q.2.2 = betw q.1 q.2.1 p.2.2 := by
    unfold short3 at hq
    by_cases e : p.2.1 - p.1 = 1
    · rw [if_pos e] at hq
      cases hq
    · rw [if_neg e] at hq
      rcases List.mem_cons.mp hq with rfl | hq
      · exact ⟨Int.le_refl _, by show p.2.1 - 1 ≤ p.2.1; omega, rfl⟩
      · rw [List.mem_singleton] at hq
        subst hq
        exact ⟨by show p.1 ≤ p.1 + 1; omega, Int.le_refl _, rfl⟩
  obtain ⟨a1, a2, a3⟩ := hh
  refine ⟨by omega, by omega, ?_⟩
  rw [h3, a3]
  unfold betw
  rw [List.filter_filter]
  refine List.filter_congr fun x _ => ?_
  rw [Bool.eq_iff_iff]
  simp only [Bool.and_eq_true, decide_eq_true_iff]
  omega
def C__law_widest : Con := fun _ es P => ∃ (n : Int) (L : List Arc3), es = [.dat (.int n), .dat (.list (L.map arcT))] ∧ 1 ≤ n ∧ n ≤ 8 ∧ (∀ p ∈ L, ArcOk n p.1 p.2.1 p.2.2) ∧ L.length ≤ 1000 ∧ ∀ R, RuleOk n R → R.length ≤ 4096 → P (.dat (.tuple (R.map arcT)))
theorem arc_small {n : Int} {p : Arc3} (h : ArcOk n p.1 p.2.1 p.2.2) (hn : n ≤ 60) : p.2.2.length ≤ 1000 := by
  have := h.len
  have := h.lo
  have := h.hi
  omega
theorem ok__law_widest (T : Tx K mg) : FnOk P w K mg base CX0 2 T.f__law_widest T.d__law_widest ["n", "arcs"] (SpC K C__law_widest) := by
  refine kfn T.F__law_widest sc__law_widest (fun W es P ⟨_, _, h, _⟩ => by rw [h]; rfl) fun cdv A outer s H E hr => ⟨_, (pss_one (ps_ret (pe_callTy (cr_tupK (K := K) rfl) (by rfl) T.m_tuple (by decide +kernel) (pa_cons (pe_lc (own := [("arc", 2)]) rfl sc__law_widest.nd (pi_seqK (K := K) rfl (pe_call (ok__law_arcs T) hr (by rfl) T.g__law_arcs T.F__law_arcs.kp T.b__law_arcs .nil pass0 (pa_cons (pv 0) pa_nil))) (blkOk_by (N := N__law_widest) (sc := defScope s__law_widest) (by decide +kernel)) (fun _ _ _ _ _ => (pg_name (i := 2) sc__law_widest.nd rfl (by first | exact Or.inl rfl | exact Or.inr rfl))) (fun _ _ _ _ _ => (pts_one (pt_cmpR (op_eqK (K := K) rfl hr.units) (pe_lc (own := [("one", 3)]) rfl sc__law_widest.nd (pi_seqK (K := K) rfl (pv 1)) (blk_deep (N := N__law_widest) (by decide +kernel)) (fun _ _ _ _ _ => (pg_name (i := 3) sc__law_widest.nd rfl (by first | exact Or.inl rfl | exact Or.inr rfl))) (fun _ _ _ _ _ => (pts_one (pt_val (pe_call (ok__law_lies T) hr (by rfl) T.g__law_lies T.F__law_lies.kp T.b__law_lies .nil pass0 (pa_cons (pv 3) (pa_cons (pv 2) pa_nil)))))) (fun _ _ _ _ _ => pe_int)) (pe_lst pa_nil) (nomark _)))) (fun _ _ _ _ _ => (pv 2))) pa_nil)))), fun W es P hC => ?_⟩
  obtain ⟨n, L, rfl, h0, h3, hL, hz, q⟩ := hC
  obtain ⟨B, hB, hm, hR, hlB⟩ := arcs_all n (by omega)
  have hzB : B.length ≤ 4096 := by
    rw [hlB]
    exact arcsTo_small (n := n) h3 (i := n.toNat) (by omega)
  try dsimp only [cx_K, cx_w]
  walk_at "ka"
  refine de_lcM B (fun p => DV.dat (arcT p)) (fun p => !L.any fun o => lies3 o p) (fun p => arcT p) (di_seqL ?_) (by omega) ?_ ?_
  · walk_at "ka"
    refine ⟨n, rfl, h0, h3, ?_⟩
    rw [hB]
    exact ⟨_, rfl, List.map_map ..⟩
  · intro p hp W' hW
    have hpo := (hm p).mp hp
    refine ⟨_, _, tg_name, by simp, ?_⟩
    walk_at "ka"
    refine de_lcM L (fun o => DV.dat (arcT o)) (fun o => lies3 o p) (fun _ => .int 1) (di_seqL ?_) (by omega) ?_ ?_
    · walk_at "ka"
      exact List.map_map ..
    · intro o ho W'' hW2
      refine ⟨_, _, tg_name, by simp, ?_⟩
      walk_at "ka"
      refine ⟨o, p, rfl, arc_small hpo (by omega), arc_small (hL o ho) (by omega), _, rfl, rfl, fun _ => ?_⟩
      walk_at "ka"
      rfl
    · walk_at "ka"
      have sh : SeqAt.shaped (.list ((L.filter fun o => lies3 o p).map fun _ => PyData.int 1)) = true := by
        have := shaped_listI ((L.filter fun o => lies3 o p).map fun _ => (1 : Int))
        unfold intsD at this
        rw [List.map_map] at this
        exact this
      refine opd_eq sh (by rfl) ⟨_, rfl, ?_, fun _ => ?_⟩
      · have e : ∀ l : List Arc3, PyData.eqv (.list ((l.filter fun o => lies3 o p).map fun _ => PyData.int 1)) (.list []) = !l.any fun o => lies3 o p := fun l => by
          cases hf : (l.filter fun o => lies3 o p) with
          | nil =>
            rw [List.filter_eq_nil_iff] at hf
            have : (l.any fun o => lies3 o p) = false := by
              rw [Bool.eq_false_iff]
              intro h
              obtain ⟨o, ho, hh⟩ := List.any_eq_true.mp h
              exact hf o ho hh
            rw [this]
            rfl
          | cons o t =>
            have : o ∈ l.filter fun o => lies3 o p := by rw [hf]; simp
            obtain ⟨m1, m2⟩ := List.mem_filter.mp this
            rw [List.any_eq_true.mpr ⟨o, m1, m2⟩]
            rfl
        exact e L
      · walk_at "ka"
        rfl
  · walk_at "ka"
    refine ⟨Wd.Le.refl W, q (B.filter fun p => !L.any fun o => lies3 o p) (hR.part _ fun p r hp hr' => ?_) (Nat.le_trans (List.length_filter_le ..) hzB)⟩
    rw [Bool.not_eq_true'] at hp ⊢
    rw [Bool.eq_false_iff] at hp ⊢
    intro h
    obtain ⟨o, ho, hl⟩ := List.any_eq_true.mp h
    exact hp (List.any_eq_true.mpr ⟨o, ho, lies3_short hr' hl⟩)

theorem getM_some {m : List (PyData × PyData)} {k : NestedKey} : (getM m k).isSome = true ↔ ∃ x ∈ m.map (·.1), kd x = k := by
  unfold getM
  rw [Option.isSome_map, List.find?_isSome]
  constructor
  · rintro ⟨x, hx, e⟩
    exact ⟨x.1, List.mem_map.mpr ⟨x, hx, rfl⟩, of_decide_eq_true e⟩
  · rintro ⟨y, hy, e⟩
    obtain ⟨x, hx, rfl⟩ := List.mem_map.mp hy
    exact ⟨x, hx, decide_eq_true e⟩
/-- the dict's keys are these arcs -/
structure KeysAre (m : List (PyData × PyData)) (A : List Arc3) : Prop where
  keys : m.map (·.1) = A.map arcT
  nd : A.Nodup
theorem KeysAre.put {m : List (PyData × PyData)} {A : List Arc3} (h : KeysAre m A) (p : Arc3) (e : PyData) : ∃ B, KeysAre (putM m (arcT p) e) B ∧ ∀ q, q ∈ B ↔ q ∈ A ∨ q = p := by
  have hk : (getM m (kd (arcT p))).isSome = true ↔ p ∈ A := by
    rw [getM_some, h.keys]
    constructor
    · rintro ⟨x, hx, e⟩
      obtain ⟨q, hq, rfl⟩ := List.mem_map.mp hx
      rw [← arc_kd e]
      exact hq
    · exact fun hp => ⟨_, List.mem_map.mpr ⟨p, hp, rfl⟩, rfl⟩
  unfold putM
  by_cases hp : p ∈ A
  · rw [if_pos (hk.mpr hp)]
    refine ⟨A, ⟨?_, h.nd⟩, fun q => ⟨.inl, ?_⟩⟩
    · rw [← h.keys, List.map_map]
      refine List.map_congr_left fun x _ => ?_
      show (if kd x.1 = kd (arcT p) then (x.1, e) else x).1 = x.1
      by_cases c : kd x.1 = kd (arcT p)
      · rw [if_pos c]
      · rw [if_neg c]
    · rintro (h | rfl)
      · exact h
      · exact hp
  · rw [if_neg fun z => hp (hk.mp z)]
    refine ⟨A ++ [p], ⟨?_, ?_⟩, fun q => by simp⟩
    · rw [List.map_append, h.keys, List.map_append]
      rfl
    · exact List.nodup_append.mpr ⟨h.nd, by simp, fun x hx y hy e => hp (by rw [List.mem_singleton] at hy; rw [← hy, ← e]; exact hx)⟩
theorem within3_mem {p q : Arc3} : q ∈ within3 p ↔ p.1 ≤ q.1 ∧ q.1 < q.2.1 ∧ q.2.1 ≤ p.2.1 ∧ q.2.2 = betw q.1 q.2.1 p.2.2 := by
  unfold within3
  rw [List.mem_flatMap]
  constructor
  · rintro ⟨c, hc, h⟩
    obtain ⟨d, hd, rfl⟩ := List.mem_map.mp h
    rw [rgN_mem] at hc hd
    exact ⟨by show p.1 ≤ c; omega, by show c < d; omega, by show d ≤ p.2.1; omega, rfl⟩
  · rintro ⟨h1, h2, h3, h4⟩
    refine ⟨q.1, rgN_mem.mpr (by omega), List.mem_map.mpr ⟨q.2.1, rgN_mem.mpr (by omega), ?_⟩⟩
    rw [← h4]
theorem within3_short {p q r : Arc3} (h : q ∈ within3 p) (hr : r ∈ short3 q) : r ∈ within3 p := by
  rw [within3_mem] at h ⊢
  obtain ⟨h1, h2, h3, h4⟩ := h
  have key : ∀ c d, q.1 ≤ c → d ≤ q.2.1 → betw c d q.2.2 = betw c d p.2.2 := fun c d hc hd => by
    rw [h4]
    unfold betw
    rw [List.filter_filter]
    refine List.filter_congr fun x _ => ?_
    rw [Bool.eq_iff_iff]
    simp only [Bool.and_eq_true, decide_eq_true_iff]
    omega
  unfold short3 at hr
  by_cases e : q.2.1 - q.1 = 1
  · rw [if_pos e] at hr
    cases hr
  · rw [if_neg e] at hr
    rcases List.mem_cons.mp hr with rfl | hr
    · exact ⟨h1, by show q.1 < q.2.1 - 1; omega, by show q.2.1 - 1 ≤ p.2.1; omega, key _ _ (Int.le_refl _) (by omega)⟩
    · rw [List.mem_singleton] at hr
      subst hr
      exact ⟨by show p.1 ≤ q.1 + 1; omega, by show q.1 + 1 < q.2.1; omega, h3, key _ _ (by omega) (Int.le_refl _)⟩
theorem within3_ok {n : Int} {p q : Arc3} (ho : ArcOk n p.1 p.2.1 p.2.2) (h : q ∈ within3 p) : ArcOk n q.1 q.2.1 q.2.2 := by
  obtain ⟨h1, h2, h3, h4⟩ := within3_mem.mp h
  have a1 := ho.lo
  have a2 := ho.hi
  refine ⟨by omega, h2, by omega, ?_, fun x hx => ?_⟩
  · rw [h4]
    exact ho.asc.sublist List.filter_sublist
  · rw [h4] at hx
    exact (betw_mem.mp hx).2
theorem within3_len {n : Int} {p : Arc3} (ho : ArcOk n p.1 p.2.1 p.2.2) (hn : n ≤ 8) : (within3 p).length ≤ 64 := by
  have h1 := ho.lo
  have h3 := ho.hi
  unfold within3
  refine Nat.le_trans (flat_len (c := 8) fun c hc => ?_) (by rw [rgN_length]; omega)
  rw [rgN_mem] at hc
  rw [List.length_map, rgN_length]
  omega
/-- keys, sorted, are a rule -/
theorem keys_rule {n : Int} {K0 : List Arc3} (nd : K0.Nodup) (ok : ∀ p ∈ K0, ArcOk n p.1 p.2.1 p.2.2) (cl : ∀ p ∈ K0, ∀ q ∈ short3 p, q ∈ K0) : ∃ A, (K0.map arcT).mergeSort (PySem.W.dataLe false id) = A.map arcT ∧ RuleOk n A ∧ A.length = K0.length := by
  have hp := List.mergeSort_perm (K0.map arcT) (PySem.W.dataLe false id)
  obtain ⟨A, hA⟩ := arcs_back (l := (K0.map arcT).mergeSort (PySem.W.dataLe false id)) fun x hx => arcT_arcs _ x (hp.mem_iff.mp hx)
  have hs := List.pairwise_mergeSort le_trans3 le_either (K0.map arcT)
  have hl := hp.length_eq
  rw [hA] at hp hs hl
  rw [List.length_map, List.length_map] at hl
  have hm : ∀ p, p ∈ A ↔ p ∈ K0 := fun p => by
    have := hp.mem_iff (a := arcT p)
    rw [List.mem_map, List.mem_map] at this
    constructor
    · intro h
      obtain ⟨q, hq, e⟩ := this.mp ⟨p, h, rfl⟩
      rw [← arcT_inj e]
      exact hq
    · intro h
      obtain ⟨q, hq, e⟩ := this.mpr ⟨p, h, rfl⟩
      rw [← arcT_inj e]
      exact hq
  refine ⟨A, hA, ⟨fun p h => ok p ((hm p).mp h), ?_, hs, fun p h q hq => (hm q).mpr (cl p ((hm p).mp h) q hq)⟩, hl⟩
  have : (K0.map arcT).Nodup := List.pairwise_map.mpr (nd.imp fun h e => h (arcT_inj e))
  exact (List.pairwise_map.mp (hp.nodup_iff.mpr this)).imp fun h e => h (by rw [e])
def C__law_closed : Con := fun _ es P => ∃ (n : Int) (L : List Arc3), es = [.dat (.list (L.map arcT))] ∧ n ≤ 8 ∧ (∀ p ∈ L, ArcOk n p.1 p.2.1 p.2.2) ∧ L.length ≤ 60 ∧ ∀ R, RuleOk n R → R.length ≤ 4096 → P (.dat (.tuple (R.map arcT)))
theorem ok__law_closed (T : Tx K mg) : FnOk P w K mg base CX0 2 T.f__law_closed T.d__law_closed ["arcs"] (SpC K C__law_closed) := by
  refine kfn T.F__law_closed sc__law_closed (fun W es P ⟨_, _, h, _⟩ => by rw [h]; rfl) fun cdv A outer s H E hr => ⟨_, (pss_cons (ps_set (i := 1) sc__law_closed.nd rfl (by first | exact Or.inl rfl | exact Or.inr rfl) (pe_dicNew (P := P) (w := w) rfl rfl))
      (pss_cons (ps_for PassesOwn.never rfl (pi_seqK (K := K) rfl (pv 0)) (pg_name (i := 2) sc__law_closed.nd rfl (by first | exact Or.inl rfl | exact Or.inr rfl)) (pss_one (ps_for PassesOwn.never rfl (pi_seqK (K := K) rfl (pe_call (ok__law_within T) hr (by rfl) T.g__law_within T.F__law_within.kp T.b__law_within .nil pass0 (pa_cons (pv 2) pa_nil))) (pg_name (i := 3) sc__law_closed.nd rfl (by first | exact Or.inl rfl | exact Or.inr rfl)) (pss_one (ps_putDK (P := P) (w := w) (K := K) rfl rfl rfl hr.units (pv 1) (pv 3) pe_bl)))))
      (pss_one (ps_ret (pe_callTy (cr_tupK (K := K) rfl) (by rfl) T.m_tuple (by decide +kernel) (pa_cons (pe_callB (cr_sortedZ (K := K) (w := w) rfl rfl rfl hr.units) (by rfl) T.m_sorted (by decide +kernel) (pa_cons (pe_callTy (cr_lstDic (P := P) (w := w) rfl rfl rfl) (by rfl) T.m_list (by decide +kernel) (pa_cons (pv 1) pa_nil)) pa_nil)) pa_nil)))))), fun W es PX hC => ?_⟩
  obtain ⟨n, L, rfl, hn, hL, hz, q⟩ := hC
  try dsimp only [cx_K, cx_w]
  refine ds_seq (ds_dicNew fun p hp => ?_)
  refine ds_seq (ds_for ?_)
  refine di_seqL ?_
  walk_at "ka"
  refine ⟨fun i W' Δ' => ∃ m B x2 x3, W' = W.hide p (knDic P w K p m) ∧ m.length ≤ i * 64 ∧ KeysAre m B ∧ (∀ r, r ∈ B ↔ ∃ o ∈ L.take i, r ∈ within3 o) ∧ Δ' = [some (.dat (.list (L.map arcT))), some (.raw (.ref p)), x2, x3], ⟨[], [], none, none, rfl, Nat.zero_le _, ⟨rfl, .nil⟩, by simp, rfl⟩, ?_, ?_⟩
  · rintro i e W' Δ' he ⟨m, B, x2, x3, rfl, hl, hB, hm, rfl⟩
    rw [List.map_map, List.getElem?_map] at he
    obtain ⟨o, hoi, rfl⟩ := Option.map_eq_some_iff.mp he
    have hoL := List.mem_of_getElem? hoi
    have hil : i < L.length := (List.getElem?_eq_some_iff.mp hoi).1
    have hoo := hL o hoL
    have hw := within3_len hoo hn
    refine ⟨_, _, tg_name, ?_⟩
    refine ds_for ?_
    refine di_seqL ?_
    walk_at "ka"
    refine ⟨n, o, rfl, hoo, by omega, _, rfl, fun j W' Δ' => ∃ m B x3, W' = W.hide p (knDic P w K p m) ∧ m.length ≤ i * 64 + j ∧ KeysAre m B ∧ (∀ r, r ∈ B ↔ (∃ o ∈ L.take i, r ∈ within3 o) ∨ r ∈ (within3 o).take j) ∧ Δ' = [some (.dat (.list (L.map arcT))), some (.raw (.ref p)), some (.dat (arcT o)), x3], ⟨m, B, x3, rfl, hl, hB, fun r => by rw [hm r]; simp, rfl⟩, ?_, ?_⟩
    · rintro j e W' Δ' he2 ⟨m, B, x3, rfl, hl, hB, hm, rfl⟩
      rw [List.map_map, List.getElem?_map] at he2
      obtain ⟨t, htj, rfl⟩ := Option.map_eq_some_iff.mp he2
      have hjl : j < (within3 o).length := (List.getElem?_eq_some_iff.mp htj).1
      refine ⟨_, _, tg_name, ?_⟩
      refine ds_putD rfl (by omega) ?_
      walk_at "ka"
      refine ⟨arc_key, ?_⟩
      obtain ⟨B2, hB2, hm2⟩ := hB.put t (.bool true)
      refine ⟨_, B2, _, rfl, ?_, hB2, fun r => ?_, rfl⟩
      · have := putM_len m (arcT t) (.bool true)
        omega
      · rw [hm2, hm, mem_take_snoc htj, or_assoc]
    · rintro W' Δ' ⟨m, B, x3, rfl, hl, hB, hm, rfl⟩
      rw [List.length_map, List.length_map] at hl hm
      refine ⟨m, B, _, _, rfl, by omega, hB, fun r => ?_, rfl⟩
      rw [hm, List.take_length]
      constructor
      · rintro (⟨o2, h1, h2⟩ | h)
        · exact ⟨o2, (mem_take_snoc hoi).mpr (.inl h1), h2⟩
        · exact ⟨o, (mem_take_snoc hoi).mpr (.inr rfl), h⟩
      · rintro ⟨o2, h1, h2⟩
        rcases (mem_take_snoc hoi).mp h1 with h1 | rfl
        · exact .inl ⟨o2, h1, h2⟩
        · exact .inr h2
  · rintro W' Δ' ⟨m, B, x2, x3, rfl, hl, hB, hm, rfl⟩
    rw [List.length_map, List.length_map] at hl hm
    rw [List.take_length] at hm
    obtain ⟨R, hR, hRok, hRl⟩ := keys_rule (n := n) hB.nd (fun r hr => by
      obtain ⟨o, h1, h2⟩ := (hm r).mp hr
      exact within3_ok (hL o h1) h2) (fun r hr t ht => by
      obtain ⟨o, h1, h2⟩ := (hm r).mp hr
      exact (hm t).mpr ⟨o, h1, within3_short h2 ht⟩)
    have hBl : B.length = m.length := by
      have := congrArg List.length hB.keys
      rw [List.length_map, List.length_map] at this
      exact this.symm
    walk_at "ka"
    refine cal_lstDic Wd.Keeps.self ?_
    rw [hB.keys]
    walk_at "ka"
    have hA := arcT_arcs B
    refine cal_sortedZL hA.alike hA.sortable hA.dep ?_
    rw [hR]
    walk_at "ka"
    exact ⟨Wd.Le.refl W |>.hide hp, q R hRok (by omega)⟩

def C__law_marked : Con := fun _ es P => ∃ (n : Int) (ms : List Int), es = [.dat (.int n), .dat (.list (intsD ms))] ∧ 1 ≤ n ∧ n ≤ 8 ∧ (ms.length : Int) = n ∧ ∀ R, RuleOk n R → R.length ≤ 4096 → P (.dat (.tuple (R.map arcT)))
def bandI (i j : Int) : Int := Builtin.bitAnd i j
/-- what the marks let be -/
def letBe (ms : List Int) (p : Arc3) : Bool := (rgN (p.1 + 1) (p.2.1 - (p.1 + 1)).toNat).all fun x => decide (bandI (ms.getD (x - 1).toNat 0) (if x ∈ p.2.2 then 1 else 2) = 0)
theorem ok__law_marked (T : Tx K mg) : FnOk P w K mg base CX0 2 T.f__law_marked T.d__law_marked ["n", "marks"] (SpC K C__law_marked) := by
  refine kfn T.F__law_marked sc__law_marked (fun W es P ⟨_, _, h, _⟩ => by rw [h]; rfl) fun cdv A outer s H E hr => ⟨_, (pss_cons (ps_set (i := 2) sc__law_marked.nd rfl (by first | exact Or.inl rfl | exact Or.inr rfl) (pe_lst pa_nil))
      (pss_cons (ps_for PassesOwn.never rfl (pi_seqK (K := K) rfl (pe_call (ok__law_arcs T) hr (by rfl) T.g__law_arcs T.F__law_arcs.kp T.b__law_arcs .nil pass0 (pa_cons (pv 0) pa_nil))) (pg_tupK (K := K) rfl (pg_tup (n := 3) rfl (pgs_cons (pg_name (i := 3) sc__law_marked.nd rfl (by first | exact Or.inl rfl | exact Or.inr rfl)) (pgs_cons (pg_name (i := 4) sc__law_marked.nd rfl (by first | exact Or.inl rfl | exact Or.inr rfl)) (pgs_cons (pg_name (i := 5) sc__law_marked.nd rfl (by first | exact Or.inl rfl | exact Or.inr rfl)) pgs_nil))))) (pss_cons (ps_setLc (i := 6) (own := [("p", 7)]) rfl sc__law_marked.nd rfl rfl (sw_true rfl rfl rfl (by decide +kernel)) (pi_range2 rfl T.m_range (pa_cons (pe_op (op_addK (K := K) rfl) (pv 3) pe_int) (pa_cons (pv 4) pa_nil))) (blkOk_by (N := N__law_marked) (sc := defScope s__law_marked) (by decide +kernel)) (fun _ _ _ _ _ => (pg_name (i := 7) sc__law_marked.nd rfl (by first | exact Or.inl rfl | exact Or.inr rfl))) (fun _ _ _ _ _ => (pts_one (pt_cmpR (op_neK (K := K) rfl hr.units) (pe_op op_and (pe_ix (ix_K (K := K) rfl) (pv 1) (pe_op op_sub (pv 7) pe_int) (fun _ _ => rfl)) (pe_ifExp (pt_cmpR (op_inZ (P := P) (w := w) (K := K) rfl rfl rfl (hu65 hr)) (pv 7) (pv 5) (by rfl)) pe_int pe_int)) pe_int (nomark _)))) (fun _ _ _ _ _ => (pv 7)))
      (pss_one (ps_if (pt_cmpR (op_eqK (K := K) rfl hr.units) (pv 6) (pe_lst pa_nil) (nomark _)) (pss_one (ps_expr (pe_bm PySem.F.plainAttrs_list PySem.F.slot_list_append PySem.F.type_list_append mt_append (pv 2) (pa_cons (pe_tup (pa_cons (pv 3) (pa_cons (pv 4) (pa_cons (pv 5) pa_nil)))) pa_nil)))) pss_nil))))
      (pss_one (ps_ret (pe_callTy (cr_tupK (K := K) rfl) (by rfl) T.m_tuple (by decide +kernel) (pa_cons (pv 2) pa_nil)))))), fun W es P hC => ?_⟩
  obtain ⟨n, ms, rfl, h0, h3, hz, q⟩ := hC
  obtain ⟨B, hB, hm, hR, hlB⟩ := arcs_all n (by omega)
  have hzB : B.length ≤ 4096 := by
    rw [hlB]
    exact arcsTo_small (n := n) h3 (i := n.toNat) (by omega)
  try dsimp only [cx_K, cx_w]
  refine ds_seq (ds_newL fun p hp => ?_)
  refine ds_seq (ds_for ?_)
  refine di_seqL ?_
  walk_at "ka"
  refine ⟨n, rfl, h0, h3, ?_⟩
  rw [hB]
  refine ⟨_, rfl, fun i W' Δ' => W' = W.hide p (knL K (((B.take i).filter (letBe ms)).map arcT)) ∧ ∃ x1 x2 x3 x4 x5, Δ' = [some (.dat (.int n)), some (.dat (.list (intsD ms))), some (.raw (.ref p)), x1, x2, x3, x4, x5], ⟨rfl, none, none, none, none, none, rfl⟩, ?_, ?_⟩
  · rintro i e W' Δ' he ⟨rfl, x1, x2, x3, x4, x5, rfl⟩
    rw [List.map_map, List.getElem?_map] at he
    obtain ⟨⟨a, b, S⟩, hoi, rfl⟩ := Option.map_eq_some_iff.mp he
    have hoo := hR.ok _ (List.mem_of_getElem? hoi)
    have h1 : 1 ≤ a := hoo.lo
    have h2 : a < b := hoo.lt
    have h4 : b ≤ n := hoo.hi
    have h5 : S.length ≤ (b - a - 1).toNat := hoo.len
    refine ⟨_, _, tg_tup3, ?_⟩
    refine dq_set ?_
    refine de_lcM (rgN (a + 1) (b - (a + 1)).toNat) (fun x => DV.dat (.int x)) (fun x => !decide (bandI (ms.getD (x - 1).toNat 0) (if x ∈ S then 1 else 2) = 0)) (fun x => .int x) ?_ (by rw [rgN_length]; omega) ?_ ?_
    · walk_at "ka"
      exact ⟨a + 1, b, rfl, by omega, by omega, rfl⟩
    · intro x hx W'' hW
      rw [rgN_mem] at hx
      refine ⟨_, _, tg_name, by simp, ?_⟩
      walk_at "ka"
      obtain ⟨k, hk⟩ : ∃ k : Nat, x - 1 = (k : Int) := ⟨(x - 1).toNat, by omega⟩
      have hkt : (x - 1).toNat = k := by omega
      rw [hk]
      refine opd_ixL (atI_nat (intsD_get (getD_get (r := ms) (i := k) (by omega)))) ?_
      walk_at "ka"
      refine opd_inZT (by rfl) (canLay_ints S) ?_
      rw [any_eqv]
      refine ⟨_, rfl, fun e => ?_, fun e => ?_⟩
      · walk_at "ka"
        refine opd_ne (by rfl) (by rfl) ⟨_, rfl, ?_, fun _ => ?_⟩
        · rw [eqv_int, if_pos (of_decide_eq_true e), ← hkt]
          rfl
        · walk_at "ka"
          rfl
      · walk_at "ka"
        refine opd_ne (by rfl) (by rfl) ⟨_, rfl, ?_, fun _ => ?_⟩
        · rw [eqv_int, if_neg (of_decide_eq_false e), ← hkt]
          rfl
        · walk_at "ka"
          rfl
    generalize hw : (rgN (a + 1) (b - (a + 1)).toNat).filter (fun x => !decide (bandI (ms.getD (x - 1).toNat 0) (if x ∈ S then 1 else 2) = 0)) = wr
    have hlb : letBe ms (a, b, S) = decide (wr = []) := by
      rw [← hw, Bool.eq_iff_iff, decide_eq_true_iff, List.filter_eq_nil_iff]
      unfold letBe
      rw [List.all_eq_true]
      simp
    have htk : (B.take (i + 1)).filter (letBe ms) = (B.take i).filter (letBe ms) ++ if letBe ms (a, b, S) = true then [(a, b, S)] else [] := by
      rw [List.take_add_one, hoi, List.filter_append]
      congr 1
      by_cases c : letBe ms (a, b, S) = true
      · simp [c]
      · simp [c]
    have hlen : ((B.take i).filter (letBe ms)).length ≤ 4096 := Nat.le_trans (List.length_filter_le ..) (by rw [List.length_take]; omega)
    have sh : SeqAt.shaped (.list (wr.map fun x => PyData.int x)) = true := shaped_listI wr
    have ev : PyData.eqv (.list (wr.map fun x => PyData.int x)) (.list []) = decide (wr = []) := by
      cases wr with
      | nil => rfl
      | cons x t => simp [PyData.eqv, PyData.eqvAll]
    walk_at "ka"
    refine opd_eq sh (by rfl) ?_
    rw [ev, ← hlb]
    refine ⟨_, rfl, fun e => ?_, fun e => ?_⟩
    · refine ds_app (i := 2) rfl (by rw [List.length_map]; omega) ?_
      walk_at "ka"
      refine ⟨?_, _, _, _, _, _, rfl⟩
      rw [htk, if_pos e, List.map_append]
      rfl
    · refine ds_next ⟨?_, _, _, _, _, _, rfl⟩
      rw [htk, if_neg (by rw [e]; exact Bool.false_ne_true), List.append_nil]
  · rintro W' Δ' ⟨rfl, x1, x2, x3, x4, x5, rfl⟩
    rw [List.length_map, List.length_map, List.take_length]
    refine ds_see (i := 2) hp rfl ?_
    walk_at "ka"
    refine ⟨Wd.Le.refl W, q (B.filter (letBe ms)) (hR.part _ fun p r hp hr => ?_) (Nat.le_trans (List.length_filter_le ..) hzB)⟩
    unfold letBe at hp ⊢
    rw [List.all_eq_true] at hp ⊢
    intro x hx
    unfold short3 at hr
    by_cases e : p.2.1 - p.1 = 1
    · rw [if_pos e] at hr
      cases hr
    · rw [if_neg e] at hr
      have hin : ∀ c d, p.1 ≤ c → d ≤ p.2.1 → r = (c, d, betw c d p.2.2) → decide (bandI (ms.getD (x - 1).toNat 0) (if x ∈ r.2.2 then 1 else 2) = 0) = true := fun c d hc hd hrr => by
        subst hrr
        rw [rgN_mem] at hx
        have hx1 : c + 1 ≤ x := hx.1
        have hx2 : x < c + 1 + (d - (c + 1)).toNat := hx.2
        have := hp x (rgN_mem.mpr (by omega))
        have eq : (x ∈ betw c d p.2.2) = (x ∈ p.2.2) := by
          rw [betw_mem]
          exact propext ⟨fun z => z.1, fun z => ⟨z, by omega, by omega⟩⟩
        show decide (bandI (ms.getD (x - 1).toNat 0) (if x ∈ betw c d p.2.2 then 1 else 2) = 0) = true
        simp only [eq]
        exact this
      rcases List.mem_cons.mp hr with hr | hr
      · exact hin _ _ (Int.le_refl _) (by omega) hr
      · rw [List.mem_singleton] at hr
        exact hin _ _ (by omega) (Int.le_refl _) hr

def C__law_arc_at : Con := fun _ es P => ∃ r, ∃ i : Nat, es = [.dat (.tuple (intsD r)), .dat (.int i)] ∧ i + 1 < r.length ∧ r.length ≤ 1000 ∧ P (.dat (arcOf r i))
theorem ok__law_arc_at (T : Tx K mg) : FnOk P w K mg base CX0 1 T.f__law_arc_at T.d__law_arc_at ["row", "i"] (SpC K C__law_arc_at) := by
  refine kfn T.F__law_arc_at sc__law_arc_at (fun W es P ⟨_, _, h, _⟩ => by rw [h]; rfl) fun cdv A outer s H E hr => ⟨_, (pss_cons (ps_asg (pe_tup (pa_cons (pe_callB (cr_min2 rfl) (by rfl) T.m_min (by decide +kernel) (pa_cons (pe_ix (ix_K (K := K) rfl) (pv 0) (pv 1) (fun _ _ => rfl)) (pa_cons (pe_ix (ix_K (K := K) rfl) (pv 0) (pe_op (op_addK (K := K) rfl) (pv 1) pe_int) (fun _ _ => rfl)) pa_nil))) (pa_cons (pe_callB (cr_max2 rfl) (by rfl) T.m_max (by decide +kernel) (pa_cons (pe_ix (ix_K (K := K) rfl) (pv 0) (pv 1) (fun _ _ => rfl)) (pa_cons (pe_ix (ix_K (K := K) rfl) (pv 0) (pe_op (op_addK (K := K) rfl) (pv 1) pe_int) (fun _ _ => rfl)) pa_nil))) pa_nil))) (pg_tupK (K := K) rfl (pg_tup (n := 2) rfl (pgs_cons (pg_name (i := 2) sc__law_arc_at.nd rfl (by first | exact Or.inl rfl | exact Or.inr rfl)) (pgs_cons (pg_name (i := 3) sc__law_arc_at.nd rfl (by first | exact Or.inl rfl | exact Or.inr rfl)) pgs_nil)))))
      (pss_one (ps_ret (pe_tup (pa_cons (pv 2) (pa_cons (pv 3) (pa_cons (pe_callTy (cr_tupK (K := K) rfl) (by rfl) T.m_tuple (by decide +kernel) (pa_cons (pe_callB (cr_sortedZ (K := K) (w := w) rfl rfl rfl hr.units) (by rfl) T.m_sorted (by decide +kernel) (pa_cons (pe_lc (own := [("p", 4)]) rfl sc__law_arc_at.nd (pi_seqK (K := K) rfl (pe_slice (sl_K (K := K) rfl) (pv 0) po_none (po_some (pv 1)))) (blkOk_by (N := N__law_arc_at) (sc := defScope s__law_arc_at) (by decide +kernel)) (fun _ _ _ _ _ => (pg_name (i := 4) sc__law_arc_at.nd rfl (by first | exact Or.inl rfl | exact Or.inr rfl))) (fun _ _ _ _ _ => (pts_one (pt_chain op_lt op_lt (pv 2) (pv 4) (pv 3)))) (fun _ _ _ _ _ => (pv 4))) pa_nil)) pa_nil)) pa_nil))))))), fun W es P hC => ?_⟩
  obtain ⟨r, i, rfl, hi, hz, q⟩ := hC
  have g0 := getD_get (r := r) (i := i) (by omega)
  have g1 := getD_get (r := r) (i := i + 1) (by omega)
  try dsimp only [cx_K, cx_w]
  walk_at "ka"
  refine opd_ixT (atI_nat (intsD_get g0)) ?_
  walk_at "ka"
  rw [show (i : Int) + 1 = ((i + 1 : Nat) : Int) from rfl]
  refine opd_ixT (atI_nat (intsD_get g1)) ?_
  walk_at "ka"
  refine opd_ixT (atI_nat (intsD_get g0)) ?_
  walk_at "ka"
  rw [show (i : Int) + 1 = ((i + 1 : Nat) : Int) from rfl]
  refine opd_ixT (atI_nat (intsD_get g1)) ?_
  walk_at "ka"
  refine ⟨_, _, tg_tup2, ?_⟩
  walk_at "ka"
  refine de_lcM (r.take i) (fun p => DV.dat (.int p)) (fun p => decide (lowAt r i < p) && decide (p < highAt r i)) (fun p => .int p) (di_seqT ?_) (by rw [List.length_take]; omega) ?_ ?_
  · walk_at "ka"
    rw [cut_to (by omega), show (i : Int).toNat = i from rfl, intsD_take]
    exact List.map_map ..
  · intro p hp W' hW
    refine ⟨_, _, tg_name, by simp, ?_⟩
    walk_at "ka"
    refine ⟨fun e => ?_, fun e => ⟨_, rfl, ?_⟩⟩
    · walk_at "ka"
      refine ⟨by rw [show decide (lowAt r i < p) = true from e, Bool.true_and]; rfl, fun e2 => ?_⟩
      walk_at "ka"
      rfl
    · rw [show decide (lowAt r i < p) = false from e, Bool.false_and]
      exact ⟨rfl, nofun⟩
  · walk_at "ka"
    have e : ((r.take i).filter fun p => decide (lowAt r i < p) && decide (p < highAt r i)).map (fun p => PyData.int p) = intsD (betw (lowAt r i) (highAt r i) (r.take i)) := rfl
    rw [e]
    refine cal_sortedZL (ints_alike _) (ints_sortable _) (ints_dep _) ?_
    walk_at "ka"
    rw [sort_intsD]
    exact ⟨Wd.Le.refl W, q⟩

theorem arc_okR {n : Int} {r : List Int} (hr : RowOk n r) {j : Nat} (h : j + 1 < r.length) : ArcOk n (lowAt r j) (highAt r j) (aheadAt r j) := by
  have m1 := hr.mem.mp (List.mem_of_getElem? (getD_get (r := r) (i := j) (by omega)))
  have m2 := hr.mem.mp (List.mem_of_getElem? (getD_get (r := r) (i := j + 1) h))
  have ne := hr.apart h
  refine ⟨by unfold lowAt; omega, by unfold lowAt highAt; omega, by unfold highAt; omega, aheadAt_asc hr j, fun p hp => (aheadAt_mem.mp hp).2⟩
def C__law_rule : Con := fun W es P => ∃ d c n, es = [.raw (.ref d), .dat (.int n)] ∧ HasDeck2 W d c ∧ 1 ≤ n ∧ n ≤ 8 ∧ ∀ R, RuleOk n R → R.length ≤ 4096 → P (.dat (.tuple (R.map arcT)))
theorem ok__law_rule (T : Tx K mg) : FnOk P w K mg base CX0 4 T.f__law_rule T.d__law_rule ["deck", "n"] (SpC K C__law_rule) := by
  refine kfn T.F__law_rule sc__law_rule (fun W es P ⟨_, _, _, h, _⟩ => by rw [h]; rfl) fun cdv A outer s H E hr => ⟨_, (pss_cons (ps_set (i := 2) sc__law_rule.nd rfl (by first | exact Or.inl rfl | exact Or.inr rfl) (pe_call (ok__law_draw T) (hr.mono (by decide)) (by rfl) T.g__law_draw T.F__law_draw.kp T.b__law_draw .nil pass0 (pa_cons (pv 0) (pa_cons pe_int pa_nil))))
      (pss_cons (ps_if (PW.pt (pw_or (pt_cmpR (op_eqK (K := K) rfl hr.units) (pv 1) pe_int (nomark _)) (pw_or1 (pt_cmpR (op_eqK (K := K) rfl hr.units) (pv 2) pe_int (nomark _))))) (pss_one (ps_ret (pe_tup pa_nil))) pss_nil)
      (pss_cons (ps_if (pt_cmpR (op_eqK (K := K) rfl hr.units) (pv 2) pe_int (nomark _)) (pss_one (ps_ret (pe_callTy (cr_tupK (K := K) rfl) (by rfl) T.m_tuple (by decide +kernel) (pa_cons (pe_call (ok__law_arcs T) (hr.mono (by decide)) (by rfl) T.g__law_arcs T.F__law_arcs.kp T.b__law_arcs .nil pass0 (pa_cons (pv 1) pa_nil)) pa_nil)))) pss_nil)
      (pss_cons (ps_if (pt_cmpR op_lt (pv 2) pe_int (nomark _)) (pss_one (ps_ret (pe_call (ok__law_widest T) (hr.mono (by decide)) (by rfl) T.g__law_widest T.F__law_widest.kp T.b__law_widest .nil pass0 (pa_cons (pv 1) (pa_cons (pe_lc (own := [("go", 5)]) rfl sc__law_rule.nd (pi_range1 rfl T.m_range (pa_cons (pe_op (op_addK (K := K) rfl) pe_int (pe_call (ok__law_draw T) (hr.mono (by decide)) (by rfl) T.g__law_draw T.F__law_draw.kp T.b__law_draw .nil pass0 (pa_cons (pv 0) (pa_cons pe_int pa_nil)))) pa_nil)) (blkOk_by (N := N__law_rule) (sc := defScope s__law_rule) (by decide +kernel)) (fun _ _ _ _ _ => (pg_name (i := 5) sc__law_rule.nd rfl (by first | exact Or.inl rfl | exact Or.inr rfl))) (fun _ _ _ _ _ => pts_nil) (fun _ _ _ _ _ => (pe_call (ok__law_arc T) hr (by rfl) T.g__law_arc T.F__law_arc.kp T.b__law_arc .nil pass0 (pa_cons (pv 0) (pa_cons (pv 1) pa_nil))))) pa_nil))))) pss_nil)
      (pss_cons (ps_if (pt_cmpR op_lt (pv 2) pe_int (nomark _)) (pss_one (ps_ret (pe_call (ok__law_closed T) (hr.mono (by decide)) (by rfl) T.g__law_closed T.F__law_closed.kp T.b__law_closed .nil pass0 (pa_cons (pe_lc (own := [("go", 5)]) rfl sc__law_rule.nd (pi_range1 rfl T.m_range (pa_cons (pe_op (op_addK (K := K) rfl) pe_int (pe_call (ok__law_draw T) (hr.mono (by decide)) (by rfl) T.g__law_draw T.F__law_draw.kp T.b__law_draw .nil pass0 (pa_cons (pv 0) (pa_cons pe_int pa_nil)))) pa_nil)) (blkOk_by (N := N__law_rule) (sc := defScope s__law_rule) (by decide +kernel)) (fun _ _ _ _ _ => (pg_name (i := 5) sc__law_rule.nd rfl (by first | exact Or.inl rfl | exact Or.inr rfl))) (fun _ _ _ _ _ => pts_nil) (fun _ _ _ _ _ => (pe_call (ok__law_arc T) hr (by rfl) T.g__law_arc T.F__law_arc.kp T.b__law_arc .nil pass0 (pa_cons (pv 0) (pa_cons (pv 1) pa_nil))))) pa_nil)))) pss_nil)
      (pss_cons (ps_if (pt_cmpR op_lt (pv 2) pe_int (nomark _)) (pss_one (ps_ret (pe_call (ok__law_marked T) (hr.mono (by decide)) (by rfl) T.g__law_marked T.F__law_marked.kp T.b__law_marked .nil pass0 (pa_cons (pv 1) (pa_cons (pe_lc (own := [("p", 6)]) rfl sc__law_rule.nd (pi_range1 rfl T.m_range (pa_cons (pv 1) pa_nil)) (blkOk_by (N := N__law_rule) (sc := defScope s__law_rule) (by decide +kernel)) (fun _ _ _ _ _ => (pg_name (i := 6) sc__law_rule.nd rfl (by first | exact Or.inl rfl | exact Or.inr rfl))) (fun _ _ _ _ _ => pts_nil) (fun _ _ _ _ _ => (pe_call (ok__law_pick T) (hr.mono (by decide)) (by rfl) T.g__law_pick T.F__law_pick.kp T.b__law_pick .nil pass0 (pa_cons (pv 0) (pa_cons (pe_lst (pa_cons pe_int (pa_cons pe_int (pa_cons pe_int (pa_cons pe_int (pa_cons pe_int (pa_cons pe_int pa_nil))))))) pa_nil))))) pa_nil))))) pss_nil)
      (pss_cons (ps_par (i := 3) (j := 4) (by rfl) sc__law_rule.nd rfl rfl (by decide) rfl rfl (pa_cons (pe_call (ok__law_row T) hr (by rfl) T.g__law_row T.F__law_row.kp T.b__law_row .nil pass0 (pa_cons (pv 0) (pa_cons (pv 1) pa_nil))) (pa_cons (pe_call (ok__law_draw T) (hr.mono (by decide)) (by rfl) T.g__law_draw T.F__law_draw.kp T.b__law_draw .nil pass0 (pa_cons (pv 0) (pa_cons (pe_op op_sub (pv 1) pe_int) pa_nil))) pa_nil)) (by rfl))
      (pss_one (ps_ret (pe_call (ok__law_widest T) (hr.mono (by decide)) (by rfl) T.g__law_widest T.F__law_widest.kp T.b__law_widest .nil pass0 (pa_cons (pv 1) (pa_cons (pe_lst (pa_cons (pe_call (ok__law_arc_at T) (hr.mono (by decide)) (by rfl) T.g__law_arc_at T.F__law_arc_at.kp T.b__law_arc_at .nil pass0 (pa_cons (pv 3) (pa_cons (pv 4) pa_nil))) pa_nil)) pa_nil)))))))))))), fun W es P hC => ?_⟩
  obtain ⟨d, c, n, rfl, hk, h1, h8, q⟩ := hC
  obtain ⟨B, hB, hm, hR, hlB⟩ := arcs_all n (by omega)
  have hzB : B.length ≤ 4096 := by
    rw [hlB]
    exact arcsTo_small (n := n) h8 (i := n.toNat) (by omega)
  have q0 : P (.dat (.tuple [])) := q [] ⟨by simp, .nil, .nil, by simp⟩ (by decide)
  try dsimp only [cx_K, cx_w]
  walk_at "ka"
  refine ⟨d, c, 10, rfl, hk, by omega, by omega, fun way w1 w2 => ?_⟩
  refine dq_when (¬ (n = 1 ∨ way = 0)) ?_ fun hne => ?_
  · refine DT.mono (PB := fun c => c = decide (n = 1 ∨ way = 0)) ?_ fun c hc => ⟨fun e => ?_, fun e => ?_⟩
    · walk_at "ka"
      refine opd_eq (by rfl) (by rfl) ?_
      rw [eqv_int]
      refine ⟨_, rfl, fun e => ?_, fun e => ?_⟩
      · walk_at "ka"
        refine opd_eq (by rfl) (by rfl) ⟨_, rfl, ?_⟩
        rw [eqv_int, decide_eq_decide]
        have := of_decide_eq_false e
        exact ⟨.inr, fun h => h.elim (fun z => (this z).elim) id⟩
      · exact (decide_eq_true (.inl (of_decide_eq_true e))).symm
    · walk_at "ka"
      exact ⟨Wd.Le.refl W, q0⟩
    · rw [hc] at e
      exact of_decide_eq_false e
  have hn2 : 2 ≤ n := by
    have : n ≠ 1 := fun e => hne (.inl e)
    omega
  refine ds_seq ?_
  walk_at "ka"
  refine opd_eq (by rfl) (by rfl) ⟨_, rfl, fun e => ?_, fun e => ?_⟩
  · walk_at "ka"
    refine ⟨n, rfl, h1, h8, ?_⟩
    rw [hB]
    walk_at "ka"
    exact ⟨Wd.Le.refl W, q B hR hzB⟩
  refine ds_next ?_
  refine ds_seq ?_
  walk_at "ka"
  refine ⟨fun e5 => ?_, fun e5 => ?_⟩
  · walk_at "ka"
    refine de_lc ?_
    walk_at "ka"
    refine ⟨d, c, 4, rfl, hk, by omega, by omega, fun m4 r1 r2 => ?_⟩
    walk_at "ka"
    refine ⟨by omega, by rw [List.length_map, rgN_length]; omega, fun i acc => ∃ L : List Arc3, acc = L.map arcT ∧ L.length ≤ i ∧ ∀ p ∈ L, ArcOk n p.1 p.2.1 p.2.2, ⟨[], rfl, Nat.le_refl _, by simp⟩, fun i e acc W' he hA hW => ?_, fun acc hA => ?_⟩
    · obtain ⟨L, rfl, hl, hL⟩ := hA
      refine ⟨_, _, tg_name, by simp, ?_⟩
      walk_at "ka"
      refine ⟨fun _ => ?_, nofun⟩
      walk_at "ka"
      refine ⟨d, c, n, rfl, hk.hid hW, hn2, by omega, fun a b S ha => ⟨_, rfl, L ++ [(a, b, S)], by rw [List.map_append]; rfl, by rw [List.length_append]; simp; omega, fun p hp => ?_⟩⟩
      rcases List.mem_append.mp hp with hp | hp
      · exact hL p hp
      · rw [List.mem_singleton] at hp
        subst hp
        exact ha
    · obtain ⟨L, rfl, hl, hL⟩ := hA
      rw [List.length_map, rgN_length] at hl
      walk_at "ka"
      exact ⟨n, L, rfl, h1, h8, hL, by omega, fun R hR2 hz => ⟨Wd.Le.refl W, q R hR2 hz⟩⟩
  refine ds_next ?_
  refine ds_seq ?_
  walk_at "ka"
  refine ⟨fun e7 => ?_, fun e7 => ?_⟩
  · walk_at "ka"
    refine de_lc ?_
    walk_at "ka"
    refine ⟨d, c, 4, rfl, hk, by omega, by omega, fun m4 r1 r2 => ?_⟩
    walk_at "ka"
    refine ⟨by omega, by rw [List.length_map, rgN_length]; omega, fun i acc => ∃ L : List Arc3, acc = L.map arcT ∧ L.length ≤ i ∧ ∀ p ∈ L, ArcOk n p.1 p.2.1 p.2.2, ⟨[], rfl, Nat.le_refl _, by simp⟩, fun i e acc W' he hA hW => ?_, fun acc hA => ?_⟩
    · obtain ⟨L, rfl, hl, hL⟩ := hA
      refine ⟨_, _, tg_name, by simp, ?_⟩
      walk_at "ka"
      refine ⟨fun _ => ?_, nofun⟩
      walk_at "ka"
      refine ⟨d, c, n, rfl, hk.hid hW, hn2, by omega, fun a b S ha => ⟨_, rfl, L ++ [(a, b, S)], by rw [List.map_append]; rfl, by rw [List.length_append]; simp; omega, fun p hp => ?_⟩⟩
      rcases List.mem_append.mp hp with hp | hp
      · exact hL p hp
      · rw [List.mem_singleton] at hp
        subst hp
        exact ha
    · obtain ⟨L, rfl, hl, hL⟩ := hA
      rw [List.length_map, rgN_length] at hl
      walk_at "ka"
      exact ⟨n, L, rfl, h8, hL, by omega, fun R hR2 hz => ⟨Wd.Le.refl W, q R hR2 hz⟩⟩
  refine ds_next ?_
  refine ds_seq ?_
  walk_at "ka"
  refine ⟨fun e9 => ?_, fun e9 => ?_⟩
  · walk_at "ka"
    refine de_lc ?_
    walk_at "ka"
    refine ⟨by omega, by rw [List.length_map, rgN_length]; omega, fun i acc => ∃ ms : List Int, acc = intsD ms ∧ ms.length = i, ⟨[], rfl, rfl⟩, fun i e acc W' he hA hW => ?_, fun acc hA => ?_⟩
    · obtain ⟨ms, rfl, hl⟩ := hA
      refine ⟨_, _, tg_name, by simp, ?_⟩
      walk_at "ka"
      refine ⟨fun _ => ?_, nofun⟩
      walk_at "ka"
      refine ⟨d, c, _, _, rfl, .inl rfl, hk.hid hW, by simp, by simp, fun x hx => ?_⟩
      obtain ⟨z, rfl⟩ : ∃ z, x = .int z := by
        simp only [List.mem_cons, List.not_mem_nil, or_false] at hx
        rcases hx with rfl | rfl | rfl | rfl | rfl | rfl <;> exact ⟨_, rfl⟩
      refine ⟨_, rfl, ms ++ [z], by unfold intsD; rw [List.map_append]; rfl, by rw [List.length_append, hl]; rfl⟩
    · obtain ⟨ms, rfl, hl⟩ := hA
      rw [List.length_map, rgN_length] at hl
      walk_at "ka"
      exact ⟨n, ms, rfl, h1, h8, by omega, fun R hR2 hz => ⟨Wd.Le.refl W, q R hR2 hz⟩⟩
  refine ds_next ?_
  walk_at "ka"
  refine ⟨d, c, n, rfl, hk, h1, by omega, fun r hr2 => ?_⟩
  walk_at "ka"
  refine ⟨d, c, n - 1, rfl, hk, by omega, by omega, fun ix i1 i2 => ?_⟩
  obtain ⟨i, rfl⟩ : ∃ i : Nat, ix = i := ⟨ix.toNat, by omega⟩
  have h3 := hr2.len
  walk_at "ka"
  refine ⟨_, _, rfl, ?_⟩
  walk_at "ka"
  refine ⟨r, i, rfl, by omega, by omega, ?_⟩
  walk_at "ka"
  refine ⟨n, [recT r i], rfl, h1, h8, fun p hp => ?_, by simp, fun R hR2 hz => ⟨Wd.Le.refl W, q R hR2 hz⟩⟩
  rw [List.mem_singleton] at hp
  subst hp
  exact arc_okR hr2 (by omega)

def C__law_exchanged : Con := fun _ es P => ∃ r, ∃ i : Nat, es = [.dat (.tuple (intsD r)), .dat (.int i)] ∧ i + 1 < r.length ∧ r.length ≤ 1000 ∧ P (.dat (.tuple (intsD (exch r i))))
theorem ok__law_exchanged (T : Tx K mg) : FnOk P w K mg base CX0 1 T.f__law_exchanged T.d__law_exchanged ["row", "i"] (SpC K C__law_exchanged) := by
  refine kfn T.F__law_exchanged sc__law_exchanged (fun W es P ⟨_, _, h, _⟩ => by rw [h]; rfl) fun cdv A outer s H E hr => ⟨_, (pss_one (ps_ret (pe_op (op_addK (K := K) rfl) (pe_op (op_addK (K := K) rfl) (pe_slice (sl_K (K := K) rfl) (pv 0) po_none (po_some (pv 1))) (pe_tup (pa_cons (pe_ix (ix_K (K := K) rfl) (pv 0) (pe_op (op_addK (K := K) rfl) (pv 1) pe_int) (fun _ _ => rfl)) (pa_cons (pe_ix (ix_K (K := K) rfl) (pv 0) (pv 1) (fun _ _ => rfl)) pa_nil)))) (pe_slice (sl_K (K := K) rfl) (pv 0) (po_some (pe_op (op_addK (K := K) rfl) (pv 1) pe_int)) po_none)))), fun W es P hC => ?_⟩
  obtain ⟨r, i, rfl, hi, hz, q⟩ := hC
  try dsimp only [cx_K, cx_w]
  walk_at "ka"
  rw [show (i : Int) + 1 = ((i + 1 : Nat) : Int) from rfl]
  refine opd_ixT (atI_nat (intsD_get (getD_get (by omega)))) ?_
  walk_at "ka"
  refine opd_ixT (atI_nat (intsD_get (getD_get (by omega)))) ?_
  walk_at "ka"
  rw [cut_to (by omega), show (i : Int).toNat = i from rfl, intsD_take]
  refine opd_addT (by rw [intsD_len, List.length_take]; simp; omega) ?_
  walk_at "ka"
  rw [cut_from (by omega), show ((i : Int) + 2).toNat = i + 2 by omega, intsD_drop]
  refine opd_addT (by rw [List.length_append, intsD_len, intsD_len, List.length_take, List.length_drop]; simp; omega) ⟨Wd.Le.refl W, ?_⟩
  have e : intsD (r.take i) ++ [PyData.int (r.getD (i + 1) 0), .int (r.getD i 0)] ++ intsD (r.drop (i + 2)) = intsD (exch r i) := by
    show intsD (r.take i) ++ intsD [r.getD (i + 1) 0, r.getD i 0] ++ intsD (r.drop (i + 2)) = _
    rw [intsD_append, intsD_append]
    rfl
  rw [e]
  exact q

def C__law_known (P : Program) (w : World) : Con := fun _ es PX => ∃ L : List Arc3, es = [.dat (.tuple (L.map arcT))] ∧ L.length ≤ 4000 ∧ ∀ m, ArcKeys m L → PX (dicD P w m)
theorem ok__law_known (T : Tx K mg) : FnOk P w K mg base CX0 1 T.f__law_known T.d__law_known ["rule"] (SpC K (C__law_known P w)) := by
  refine kfn T.F__law_known sc__law_known (fun W es P ⟨_, h, _⟩ => by rw [h]; rfl) fun cdv A outer s H E hr => ⟨_, (pss_cons (ps_set (i := 1) sc__law_known.nd rfl (by first | exact Or.inl rfl | exact Or.inr rfl) (pe_dicNew (P := P) (w := w) rfl rfl))
      (pss_cons (ps_for PassesOwn.never rfl (pi_seqK (K := K) rfl (pv 0)) (pg_name (i := 2) sc__law_known.nd rfl (by first | exact Or.inl rfl | exact Or.inr rfl)) (pss_one (ps_putDK (P := P) (w := w) (K := K) rfl rfl rfl hr.units (pv 1) (pv 2) pe_bl)))
      (pss_one (ps_ret (pv 1))))), fun W es PX hC => ?_⟩
  obtain ⟨L, rfl, hz, q⟩ := hC
  try dsimp only [cx_K, cx_w]
  refine ds_seq (ds_dicNew fun p hp => ?_)
  refine ds_seq (ds_for ?_)
  refine di_seqT ?_
  walk_at "ka"
  refine ⟨fun i W' Δ' => ∃ m x, W' = W.hide p (knDic P w K p m) ∧ m.length ≤ i ∧ ArcKeys m (L.take i) ∧ Δ' = [some (.dat (.tuple (L.map arcT))), some (.raw (.ref p)), x], ⟨[], none, rfl, Nat.le_refl _, fun k => by simp [getM], rfl⟩, ?_, ?_⟩
  · rintro i e W' Δ' he ⟨m, x, rfl, hl, hm, rfl⟩
    rw [List.map_map, List.getElem?_map] at he
    obtain ⟨d, hdi, rfl⟩ := Option.map_eq_some_iff.mp he
    have hil : i < L.length := (List.getElem?_eq_some_iff.mp hdi).1
    refine ⟨_, _, tg_name, ?_⟩
    refine ds_putD rfl (by omega) ?_
    walk_at "ka"
    refine ⟨arc_key, ?_⟩
    refine ⟨putM m (arcT d) (.bool true), _, rfl, ?_, ?_, rfl⟩
    · have := putM_len m (arcT d) (.bool true)
      omega
    · intro k
      rw [getM_put, Bool.or_eq_true, hm k, List.mem_map, List.mem_map, decide_eq_true_iff]
      constructor
      · rintro (⟨x, h1, h2⟩ | h)
        · exact ⟨x, (mem_take_snoc hdi).mpr (.inl h1), h2⟩
        · exact ⟨_, (mem_take_snoc hdi).mpr (.inr rfl), h⟩
      · rintro ⟨x, h1, h2⟩
        rcases (mem_take_snoc hdi).mp h1 with h1 | rfl
        · exact .inl ⟨x, h1, h2⟩
        · exact .inr h2
  · rintro W' Δ' ⟨m, x, rfl, hl, hm, rfl⟩
    refine ds_seeD (i := 1) hp rfl ?_
    walk_at "ka"
    rw [List.length_map, List.length_map, List.take_length] at hm
    exact ⟨Wd.Le.refl W, q m hm⟩

/-- all places of a blind step -/
def stepsL (c : Arc3 → Bool) (r : List Int) : List Nat := (List.range (r.length - 1)).filter fun i => !c (recT r i)
theorem stepsL_mem {c : Arc3 → Bool} {r : List Int} {i : Nat} : i ∈ stepsL c r ↔ i + 1 < r.length ∧ c (recT r i) = false := by
  unfold stepsL
  rw [List.mem_filter, List.mem_range, Bool.not_eq_true']
  exact ⟨fun ⟨a, b⟩ => ⟨by omega, b⟩, fun ⟨a, b⟩ => ⟨by omega, b⟩⟩
def C__law_blind (P : Program) (w : World) : Con := fun _ es PX => ∃ (L : List Arc3) (m : List (PyData × PyData)) (r : List Int), es = [dicD P w m, .dat (.tuple (intsD r))] ∧ ArcKeys m L ∧ r.length ≤ 60 ∧ 1 ≤ r.length ∧ PX (.dat (.list ((stepsL (inL L) r).map fun i : Nat => .int i)))
theorem ok__law_blind (T : Tx K mg) : FnOk P w K mg base CX0 2 T.f__law_blind T.d__law_blind ["known", "row"] (SpC K (C__law_blind P w)) := by
  refine kfn T.F__law_blind sc__law_blind (fun W es P ⟨_, _, _, h, _⟩ => by rw [h]; rfl) fun cdv A outer s H E hr => ⟨_, (pss_one (ps_ret (pe_lc (own := [("i", 2)]) rfl sc__law_blind.nd (pi_range1 rfl T.m_range (pa_cons (pe_op op_sub (pe_callB (cr_lenK (K := K) rfl) (by rfl) T.m_len (by decide +kernel) (pa_cons (pv 1) pa_nil)) pe_int) pa_nil)) (blkOk_by (N := N__law_blind) (sc := defScope s__law_blind) (by decide +kernel)) (fun _ _ _ _ _ => (pg_name (i := 2) sc__law_blind.nd rfl (by first | exact Or.inl rfl | exact Or.inr rfl))) (fun _ _ _ _ _ => (pts_one (pt_cmpR (op_notInZ (P := P) (w := w) (K := K) rfl rfl rfl (hu65 hr)) (pe_call (ok__law_arc_at T) hr (by rfl) T.g__law_arc_at T.F__law_arc_at.kp T.b__law_arc_at .nil pass0 (pa_cons (pv 1) (pa_cons (pv 2) pa_nil))) (pv 0) (by rfl)))) (fun _ _ _ _ _ => (pv 2))))), fun W es PX hC => ?_⟩
  obtain ⟨L, m, r, rfl, hm, hz, h1, q⟩ := hC
  try dsimp only [cx_K, cx_w]
  walk_at "ka"
  refine de_lcM (List.range (r.length - 1)) (fun i => DV.dat (.int (i : Nat))) (fun i => !inL L (recT r i)) (fun i => .int (i : Nat)) ?_ (by rw [List.length_range]; omega) ?_ ?_
  · walk_at "ka"
    rw [intsD_len]
    refine ⟨by omega, ?_⟩
    rw [show ((r.length : Int) - 1).toNat = r.length - 1 by omega, rg_range, List.map_map]
    rfl
  · intro i hi W'' hW
    rw [List.mem_range] at hi
    refine ⟨_, _, tg_name, by simp, ?_⟩
    walk_at "ka"
    refine ⟨r, i, rfl, by omega, by omega, ?_⟩
    walk_at "ka"
    show OpD _ _ _ (.dat (arcT (recT r i))) _ _
    refine opd_niZV arc_key ⟨_, rfl, ?_, fun _ => ?_⟩
    · rw [hm.has]
      rfl
    · walk_at "ka"
      rfl
  · exact ⟨Wd.Le.refl W, q⟩

-- import: KE.KDictDisplayH
/-! {k: v}, k a tuple; a dict that changes under another hidden thing -/
open Kd in
def tDic1 (P : Program) (w : World) (K : PySem.W.Frag) (tk tv : TE) : TE := fun σ H Q => ∀ D, H D = none → tk σ (upd H D (DicO P w D [])) fun y H1 => tv σ H1 fun z H2 => ∃ k c, y = .ref c ∧ H2 D = some (DicO P w D []) ∧ okd K H2 (k, c, z) ∧ Q (.ref D) (upd H2 D (DicO P w D [(k, c, z)]))
open Kd in
theorem pe_dic1 {X : Cx} {P : Program} {w : World} {K : PySem.W.Frag} {ke ve : Expr} {pos : Pos} {tk tv : TE} (e1 : X.prog = P) (e2 : X.w = w) (e3 : X.K = K) (hu : X.A.units + 64 < cLine) (hk : PE X ke tk) (hv : PE X ve tv) : PE X (.Dict [some ke] [ve] pos) (tDic1 P w K tk tv) := by
  subst e1 e2 e3
  refine ⟨fun pins s σ H Q I h => ?_⟩
  have hn := I.hok.fresh (Nat.le_refl s.heap.objs.size)
  have I1 := I.laid (a := s.heap.objs.size) (o := DicO X.prog X.w s.heap.objs.size []) (h' := s.heap.push { cls := .type "dict", data := .dict #[] }) (t' := s.toks) (fun _ _ q => Heap.get?_push_of_some _ q) (Nat.le_refl _)
    (dicO_ok (Nat.zero_le _) (by have := I.big; simpa using Nat.ne_of_gt this) .nil (Heap.get?_push_size _ rfl) ⟨rfl, rfl, rfl⟩ rfl rfl .nil)
  rw [arm_eval_Dict, zip_pairTrees [some ke] [ve] X.env pos rfl rfl, dictDisplay_pairs _ (by simp [pairTrees]) (by simp [pairTrees])]
  refine wpAny_bind (wpAny_standAt (wpAny_bind (wpAny_subDictH (knd := nestedKind X.prog X.w) (show X.A.units + 8 < cLine by omega) (by simp [pairTrees]) ?_)))
  refine pairTrees_cons_walk (thn (hk.run pins _ σ _ _ I1 (h _ hn)) fun u s1 ⟨y, H1, I2, ry, q1⟩ => thn (hv.run pins s1 σ H1 _ I2 q1) fun r s2 ⟨z, H2, I3, rz, k, c, ey, hD, ok, q2⟩ => pairTrees_nil_walk ?_)
  subst ey
  obtain rfl : u = Value.ref c := ry
  obtain ⟨zz, hd, ys, rel, dd⟩ := dic_of I3 hD (fun _ h => nomatch h)
  cases rel
  have kb : (nestedKind X.prog X.w).is s2.heap k c := okd_key (X := X) rfl rfl rfl I3 ok
  refine ⟨[(k, c, r)], ⟨rfl, rfl, kb, trivial⟩, dd, fun h' tk ⟨q, es, ep, hq, h2, h3, h4, _, h5⟩ hs => wpAny_pure ?_⟩
  exact ⟨.ref s.heap.objs.size, _, d_write I3 (by rw [hD]; exact True.intro) hs ⟨q, hq⟩ (dicO_ok (by show 1 ≤ sizeLine; decide) hd (.cons ⟨rfl, rfl, rz⟩ .nil) hq h2 h3 h4 h5), rfl, q2⟩
open Kd in
theorem ds_parD1 {P : Program} {w : World} {K : PySem.W.Frag} {W : Wd} {Δ : DEnv} {nx bk ct : Wd → DEnv → Prop} {rt : Wd → DV → Prop} {i j a : Nat} {d : PyData} {b : Bool} {tb : TE} (ha : Δ[a]? = some (some (.dat d))) (td : TupKey d)
    (h : ∀ p, W.hid p = false → DE K (W.hide p (knDic P w K p [(d, .bool b)])) Δ tb fun e => nx (W.hide p (knDic P w K p [(d, .bool b)])) ((Δ.set i (some (.raw (.ref p)))).set j (some e))) :
    DS K W Δ (tPar i j (tCons (tDic1 P w K (tVar a) (tC (.bl b))) (tCons tb tNil))) nx rt bk ct := fun σ H D v iv c => by
  intro p hp
  obtain ⟨x, hx, rx⟩ := v.at_ a _ ha
  obtain ⟨n1, n2⟩ := Wd.hide_new (φ := knDic P w K p []) (o := DicO P w p []) iv hp ⟨[], rfl, .nil⟩
  have rx' : Dq K ((W.hide p (knDic P w K p [])).view (upd H p (DicO P w p []))) x d := by rw [n2]; exact rx
  obtain ⟨c0, rfl⟩ := tup_ref rx' td
  obtain ⟨z1, z2⟩ := Wd.hide_put (ψ := knDic P w K p [(d, .bool b)]) (u := DicO P w p [(kd d, c0, .bl b)]) n1 ⟨_, rfl, .cons ⟨rfl, rx', td, .bl b⟩ .nil⟩
  refine ⟨.ref c0, hx, kd d, c0, rfl, upd_same, okd.le Wd.view_le ⟨d, rx', td, rfl⟩, ?_⟩
  refine h p (Wd.hid_none iv hp) σ _ (by rw [z2, n2]; exact v) z1 _ fun y H2 e i2 x2 p2 r2 => ?_
  rw [z2, n2] at x2
  exact ⟨.ref p, y, rfl, c.nx _ _ _ _ p2 i2 x2 (((v.mono x2).set (e := .raw (.ref p)) rfl).set r2)⟩
open Kd in
/-- d[k] = v, d hidden under another thing -/
theorem ds_putD2 {P : Program} {w : World} {K : PySem.W.Frag} {W : Wd} {Δ : DEnv} {nx bk ct : Wd → DEnv → Prop} {rt : Wd → DV → Prop} {p q : Addr} {φ : Kn} {i : Nat} {m : List (PyData × PyData)} {tv ty : TE} (hi : Δ[i]? = some (some (.raw (.ref p)))) (hz : m.length < 100000)
    (h : DE K ((W.hide p (knDic P w K p m)).hide q φ) Δ tv fun z => ∃ e, z = .dat e ∧ DE K ((W.hide p (knDic P w K p m)).hide q φ) Δ ty fun y => ∃ d, y = .dat d ∧ TupKey d ∧ nx ((W.hide p (knDic P w K p (putM m d e))).hide q φ) Δ) :
    DS K ((W.hide p (knDic P w K p m)).hide q φ) Δ (sPutD P w K (tVar i) ty tv) nx rt bk ct := fun σ H D v iv c =>
  h σ H v iv _ fun z H1 e1 i1 x1 p1 r1 => by
    obtain ⟨e, rfl, p1⟩ := p1
    obtain ⟨x, hx, rx⟩ := v.at_ i _ hi
    have rx : x = .ref p := rx
    subst rx
    refine ⟨.ref p, hx, p1 σ H1 (v.mono x1) i1 _ fun y H2 e2 i2 x2 p2 r2 => ?_⟩
    obtain ⟨d, rfl, td, hn⟩ := p2
    obtain ⟨o, ho, xs, rfl, hxs⟩ := (Wd.Keeps.self (W := W) (p := p) (φ := knDic P w K p m)).hide (q := q) (ψ := φ) H2 i2
    have r2 : Dq K _ y d := r2
    obtain ⟨b, rfl⟩ := tup_ref r2 td
    have hlen : xs.length = m.length := Paired.length hxs
    refine ⟨p, b, xs, kd d, rfl, rfl, ho, fun z hm => (hxs.okd z hm).le Wd.view_le, okd.le Wd.view_le ⟨d, r2, td, rfl⟩, sz_lt (by omega), ?_⟩
    obtain ⟨z1, z2, _⟩ := Wd.hide_put2 (ψ' := knDic P w K p (putM m d e)) (u := DicO P w p (entPut xs (kd d) b z)) i2 ⟨_, rfl, dic_put hxs r2 td (Dq.mono x2 r1)⟩
    refine c.nx _ Δ σ _ hn z1 (by rw [z2]; exact x1.trans x2) ?_
    rw [z2]
    exact v.mono (x1.trans x2)

theorem row_key30 {r : List Int} : TupKey (rowD r) := by
  refine ⟨⟨_, rfl⟩, ?_, ?_⟩
  · show okKeys (intsD r) = true
    exact okKeys_ints r
  · show (kd (.tuple (intsD r))).depth ≤ 8
    simp [kd, NestedKey.depth, kds_ints]
theorem row_kd30 {r s : List Int} (h : kd (rowD r) = kd (rowD s)) : r = s := by
  have h : kd (.tuple (intsD r)) = kd (.tuple (intsD s)) := h
  simp only [kd] at h
  injection h with h
  exact kds_inj h
/-- the dict's keys are these rows -/
structure RowKeys (m : List (PyData × PyData)) (F : List (List Int)) : Prop where
  keys : m.map (·.1) = F.map rowD
  nd : F.Nodup
theorem RowKeys.has {m : List (PyData × PyData)} {F : List (List Int)} (h : RowKeys m F) (r : List Int) : (getM m (kd (rowD r))).isSome = decide (r ∈ F) := by
  have hs : (getM m (kd (rowD r))).isSome = true ↔ ∃ x ∈ m.map (·.1), kd x = kd (rowD r) := by
    unfold getM
    rw [Option.isSome_map, List.find?_isSome]
    constructor
    · rintro ⟨x, hx, e⟩
      exact ⟨x.1, List.mem_map.mpr ⟨x, hx, rfl⟩, of_decide_eq_true e⟩
    · rintro ⟨y, hy, e⟩
      obtain ⟨x, hx, rfl⟩ := List.mem_map.mp hy
      exact ⟨x, hx, decide_eq_true e⟩
  rw [Bool.eq_iff_iff, hs, h.keys, decide_eq_true_iff]
  constructor
  · rintro ⟨x, hx, e⟩
    obtain ⟨s, hs, rfl⟩ := List.mem_map.mp hx
    rw [← row_kd30 e]
    exact hs
  · exact fun hr => ⟨_, List.mem_map.mpr ⟨r, hr, rfl⟩, rfl⟩
theorem RowKeys.put {m : List (PyData × PyData)} {F : List (List Int)} (h : RowKeys m F) {r : List Int} (hr : r ∉ F) (e : PyData) : RowKeys (putM m (rowD r) e) (F ++ [r]) := by
  unfold putM
  rw [h.has, decide_eq_false hr, if_neg Bool.false_ne_true]
  refine ⟨by rw [List.map_append, h.keys, List.map_append]; rfl, List.nodup_append.mpr ⟨h.nd, by simp, fun x hx y hy e => hr (by rw [List.mem_singleton] at hy; rw [← hy, ← e]; exact hx)⟩⟩
/-- a set of rows closed under blind steps has the whole class -/
theorem closed_class {n : Int} {c : Arc3 → Bool} (h1 : 1 ≤ n) {F : List (List Int)} {r : List Int} (hr : RowOk n r) (hF : r ∈ F) (cl : ∀ x ∈ F, RowOk n x → ∀ i ∈ stepsL c x, exch x i ∈ F) {x : List Int} (hx : RowOk n x) (e : firstL c x = firstL c r) : x ∈ F := by
  have down : ∀ {w : List Nat} {y : List Int}, RowOk n y → IsWayF c true y w → y ∈ F → goAlong y w ∈ F := by
    intro w
    induction w with
    | nil => exact fun _ _ h => h
    | cons i w ih =>
      intro y hy ⟨hb, hw⟩ h
      have hl := hy.len
      have := hb.lt
      exact ih (hy.exch (by omega)) hw (cl y h hy i (stepsL_mem.mpr ⟨hb.lt, hb.blind⟩))
  have up : ∀ {w : List Nat} {y : List Int}, RowOk n y → IsWayF c true y w → goAlong y w ∈ F → y ∈ F := by
    intro w
    induction w with
    | nil => exact fun _ _ h => h
    | cons i w ih =>
      intro y hy ⟨hb, hw⟩ h
      have hl := hy.len
      have := hb.lt
      have hy1 : RowOk n (exch y i) := hy.exch (by omega)
      have q := cl _ (ih hy1 hw h) hy1 i (stepsL_mem.mpr ⟨by rw [exch_len hb.lt]; exact hb.lt, by rw [recT_same hy hb.lt]; exact hb.blind⟩)
      rwa [exch_twice hb.lt] at q
  obtain ⟨w, hw, ew, _⟩ := first_end (c := c) hr h1
  obtain ⟨v, hv, ev, _⟩ := first_end (c := c) hx h1
  have := down hr hw hF
  rw [ew, ← e] at this
  exact up hx hv (by rw [ev]; exact this)
theorem class_mem30 {n : Int} {L : List Arc3} (hL : RuleOk n L) (h1 : 1 ≤ n) (h5 : n ≤ 5) {r x : List Int} (hr : RowOk n r) : x ∈ classL n L r ↔ RowOk n x ∧ firstL (inL L) x = firstL (inL L) r := by
  show x ∈ List.filter _ _ ↔ _
  rw [List.mem_filter, rowsAll_iff (by omega) h5, Bool.and_eq_true, leR_iff, leR_iff]
  constructor
  · rintro ⟨ho, h⟩
    exact ⟨ho, (class_iff (blUp_rule hL) hr ho h1).mpr h⟩
  · rintro ⟨ho, h⟩
    exact ⟨ho, (class_iff (blUp_rule hL) hr ho h1).mp h⟩
theorem class_sort {n : Int} {L : List Arc3} (hL : RuleOk n L) (h1 : 1 ≤ n) (h5 : n ≤ 5) {r : List Int} (hr : RowOk n r) {F : List (List Int)} (nd : F.Nodup) (h : ∀ x, x ∈ F ↔ RowOk n x ∧ firstL (inL L) x = firstL (inL L) r) : (F.map rowD).mergeSort (PySem.W.dataLe false id) = (classL n L r).map rowD := by
  obtain ⟨k, rfl⟩ := Int.eq_ofNat_of_zero_le (show 0 ≤ n by omega)
  have nr := rowsAll_nodup (n := (k : Int)) (by omega) h5
  have p : F.Perm (classL k L r) := (List.perm_ext_iff_of_nodup nd (nr.sublist List.filter_sublist)).mpr fun x => by rw [h, ← class_mem30 hL h1 h5 hr]; exact Iff.rfl
  refine sort_is (p.map rowD) (fun a ha b hb e => ?_) ((allrows_asc k (by omega)).sublist (List.filter_sublist.map rowD))
  obtain ⟨x, _, rfl⟩ := List.mem_map.mp ha
  obtain ⟨y, _, rfl⟩ := List.mem_map.mp hb
  rw [toks_tupI e]
theorem rows_alike30 (G : List (List Int)) : PySem.W.AllAlike (G.map rowD) := fun x hx y hy => by
  obtain ⟨a, _, rfl⟩ := List.mem_map.mp hx
  obtain ⟨b, _, rfl⟩ := List.mem_map.mp hy
  show PySem.W.alike (.tuple (intsD a)) (.tuple (intsD b)) = true
  simp only [PySem.W.alike, alike_ints2]
theorem rows_few {n : Int} (h0 : 0 ≤ n) (h5 : n ≤ 5) {F : List (List Int)} (nd : F.Nodup) (h : ∀ x ∈ F, RowOk n x) : F.length ≤ 120 :=
  Nat.le_trans (nodup_le nd fun x hx => (rowsAll_iff h0 h5).mpr (h x hx)) (rowsAll_len h0 h5).2
/-- what the search has after some rounds -/
structure Srch (n : Int) (c : Arc3 → Bool) (r : List Int) (F E : List (List Int)) : Prop where
  rows : ∀ x ∈ F, RowOk n x ∧ firstL c x = firstL c r
  has : r ∈ F
  edge : ∀ x ∈ E, x ∈ F
  shut : ∀ x ∈ F, x ∉ E → ∀ i ∈ stepsL c x, exch x i ∈ F
theorem Srch.next {n : Int} {c : Arc3 → Bool} {r : List Int} {F E N : List (List Int)} (h : Srch n c r F E) (hN : ∀ x ∈ N, RowOk n x ∧ firstL c x = firstL c r) (hE : ∀ x ∈ E, ∀ i ∈ stepsL c x, exch x i ∈ F ++ N) : Srch n c r (F ++ N) N := by
  refine ⟨fun x hx => ?_, List.mem_append_left _ h.has, fun x hx => List.mem_append_right _ hx, fun x hx hn i hi => ?_⟩
  · rcases List.mem_append.mp hx with hx | hx
    · exact h.rows x hx
    · exact hN x hx
  · rcases List.mem_append.mp hx with hx | hx
    · by_cases e : x ∈ E
      · exact hE x e i hi
      · exact List.mem_append_left _ (h.shut x hx e i hi)
    · exact absurd hx hn
theorem Srch.done {n : Int} {c : Arc3 → Bool} (h1 : 1 ≤ n) {r : List Int} {F : List (List Int)} (hr : RowOk n r) (h : Srch n c r F []) (x : List Int) : x ∈ F ↔ RowOk n x ∧ firstL c x = firstL c r :=
  ⟨h.rows x, fun ⟨a, b⟩ => closed_class h1 hr h.has (fun y hy _ => h.shut y hy (List.not_mem_nil)) a b⟩
def C__law_class (P : Program) (w : World) : Con := fun _ es PX => ∃ (n : Int) (L : List Arc3) (m : List (PyData × PyData)) (r : List Int), es = [dicD P w m, .dat (.tuple (intsD r))] ∧ ArcKeys m L ∧ RuleOk n L ∧ RowOk n r ∧ 1 ≤ n ∧ n ≤ 5 ∧ PX (.dat (.tuple ((classL n L r).map rowD)))
set_option maxHeartbeats 0 in
theorem ok__law_class (T : Tx K mg) : FnOk P w K mg base CX0 3 T.f__law_class T.d__law_class ["known", "row"] (SpC K (C__law_class P w)) := by
  refine kfn T.F__law_class sc__law_class (fun W es P ⟨_, _, _, _, h, _⟩ => by rw [h]; rfl) fun cdv A outer s H E hr => ⟨_, (pss_cons (ps_par (i := 2) (j := 3) (by rfl) sc__law_class.nd rfl rfl (by decide) rfl rfl (pa_cons (pe_dic1 (P := P) (w := w) (K := K) rfl rfl rfl hr.units (pv 1) pe_bl) (pa_cons (pe_lst (pa_cons (pv 1) pa_nil)) pa_nil)) (by rfl))
      (pss_cons (ps_for PassesOwn.never rfl (pi_range1 rfl T.m_range (pa_cons pe_int pa_nil)) (pg_name (i := 4) sc__law_class.nd rfl (by first | exact Or.inl rfl | exact Or.inr rfl)) (pss_cons (ps_set (i := 5) sc__law_class.nd rfl (by first | exact Or.inl rfl | exact Or.inr rfl) (pe_lst pa_nil))
      (pss_cons (ps_for PassesOwn.never rfl (pi_seqK (K := K) rfl (pv 3)) (pg_name (i := 6) sc__law_class.nd rfl (by first | exact Or.inl rfl | exact Or.inr rfl)) (pss_one (ps_for PassesOwn.never rfl (pi_seqK (K := K) rfl (pe_call (ok__law_blind T) hr (by rfl) T.g__law_blind T.F__law_blind.kp T.b__law_blind .nil pass0 (pa_cons (pv 0) (pa_cons (pv 6) pa_nil)))) (pg_name (i := 7) sc__law_class.nd rfl (by first | exact Or.inl rfl | exact Or.inr rfl)) (pss_cons (ps_set (i := 8) sc__law_class.nd rfl (by first | exact Or.inl rfl | exact Or.inr rfl) (pe_call (ok__law_exchanged T) (hr.mono (by decide)) (by rfl) T.g__law_exchanged T.F__law_exchanged.kp T.b__law_exchanged .nil pass0 (pa_cons (pv 6) (pa_cons (pv 7) pa_nil))))
      (pss_one (ps_if (pt_cmpR (op_notInZ (P := P) (w := w) (K := K) rfl rfl rfl (hu65 hr)) (pv 8) (pv 2) (by rfl)) (pss_cons (ps_putDK (P := P) (w := w) (K := K) rfl rfl rfl hr.units (pv 2) (pv 8) pe_bl)
      (pss_one (ps_expr (pe_bm PySem.F.plainAttrs_list PySem.F.slot_list_append PySem.F.type_list_append mt_append (pv 5) (pa_cons (pv 8) pa_nil))))) pss_nil))))))
      (pss_cons (ps_set (i := 3) sc__law_class.nd rfl (by first | exact Or.inl rfl | exact Or.inr rfl) (pv 5))
      (pss_one (ps_if (pt_cmpR (op_eqK (K := K) rfl hr.units) (pv 3) (pe_lst pa_nil) (nomark _)) (pss_one ps_break) pss_nil))))))
      (pss_one (ps_ret (pe_callTy (cr_tupK (K := K) rfl) (by rfl) T.m_tuple (by decide +kernel) (pa_cons (pe_callB (cr_sortedZ (K := K) (w := w) rfl rfl rfl hr.units) (by rfl) T.m_sorted (by decide +kernel) (pa_cons (pe_callTy (cr_lstDic (P := P) (w := w) rfl rfl rfl) (by rfl) T.m_list (by decide +kernel) (pa_cons (pv 2) pa_nil)) pa_nil)) pa_nil)))))), fun W es PX hC => ?_⟩
  obtain ⟨n, L, m0, r, rfl, hm0, hL, ho, hn1, hn5, q⟩ := hC
  have cl := blUp_rule hL
  try dsimp only [cx_K, cx_w]
  refine ds_seq (ds_parD1 (d := rowD r) rfl row_key30 fun p hp => ?_)
  walk_at "ka"
  refine ds_cut (fun W2 Δ2 => ∃ m F x3 x4 x5 x6 x7 x8, W2 = W.hide p (knDic P w K p m) ∧ RowKeys m F ∧ Srch n (inL L) r F [] ∧ Δ2 = [some (dicD P w m0), some (.dat (.tuple (intsD r))), some (.raw (.ref p)), x3, x4, x5, x6, x7, x8]) ?_ ?_
  · refine ds_for ?_
    walk_at "ka"
    refine ⟨by decide, fun k W' Δ' => ∃ m F E x4 x5 x6 x7 x8, W' = W.hide p (knDic P w K p m) ∧ RowKeys m F ∧ Srch n (inL L) r F E ∧ k < F.length ∧ Δ' = [some (dicD P w m0), some (.dat (.tuple (intsD r))), some (.raw (.ref p)), some (.dat (.list (E.map rowD))), x4, x5, x6, x7, x8], ⟨[(rowD r, .bool true)], [r], [r], none, none, none, none, none, rfl, ⟨rfl, by simp⟩, ⟨fun x hx => by rw [List.mem_singleton.mp hx]; exact ⟨ho, rfl⟩, by simp, fun x hx => hx, fun x hx hx2 => absurd hx hx2⟩, Nat.zero_lt_one, rfl⟩, ?_, ?_⟩
    · rintro k e W' Δ' he ⟨m, F, E, x4, x5, x6, x7, x8, rfl, hK, hS, hk, rfl⟩
      obtain ⟨hk2, rfl⟩ := rgN_at he
      have hFf := rows_few (n := n) (by omega) hn5 hK.nd fun x hx => (hS.rows x hx).1
      refine ⟨_, _, tg_name, ?_⟩
      refine ds_seq (ds_newL fun qq hq => ?_)
      have hq2 : W.hid qq = false := by
        have := hq
        unfold Wd.hide at this
        simp [hidAnd] at this
        exact this.1
      refine ds_cut (fun W2 Δ2 => ∃ m N x6 x7 x8, W2 = (W.hide p (knDic P w K p m)).hide qq (knL K (N.map rowD)) ∧ RowKeys m (F ++ N) ∧ (∀ x ∈ N, RowOk n x ∧ firstL (inL L) x = firstL (inL L) r) ∧ (∀ x ∈ E, ∀ i ∈ stepsL (inL L) x, exch x i ∈ F ++ N) ∧ Δ2 = [some (dicD P w m0), some (.dat (.tuple (intsD r))), some (.raw (.ref p)), some (.dat (.list (E.map rowD))), some (.dat (.int (0 + (k : Int)))), some (.raw (.ref qq)), x6, x7, x8]) ?_ ?_
      · refine ds_for ?_
        refine di_seqL ?_
        walk_at "ka"
        refine ⟨fun j W' Δ' => ∃ m N x6 x7 x8, W' = (W.hide p (knDic P w K p m)).hide qq (knL K (N.map rowD)) ∧ RowKeys m (F ++ N) ∧ (∀ x ∈ N, RowOk n x ∧ firstL (inL L) x = firstL (inL L) r) ∧ (∀ x ∈ E.take j, ∀ i ∈ stepsL (inL L) x, exch x i ∈ F ++ N) ∧ Δ' = [some (dicD P w m0), some (.dat (.tuple (intsD r))), some (.raw (.ref p)), some (.dat (.list (E.map rowD))), some (.dat (.int (0 + (k : Int)))), some (.raw (.ref qq)), x6, x7, x8], ⟨m, [], x6, x7, x8, rfl, by rw [List.append_nil]; exact hK, fun x hx => (List.not_mem_nil hx).elim, fun x hx => (List.not_mem_nil hx).elim, rfl⟩, ?_, ?_⟩
        · clear hK hq x6 x7 x8
          rintro j e W' Δ' he ⟨m, N, x6, x7, x8, rfl, hK, hN, hE, rfl⟩
          rw [List.getElem?_map] at he
          obtain ⟨d, hd, rfl⟩ := Option.map_eq_some_iff.mp he
          rw [List.getElem?_map] at hd
          obtain ⟨y, hy, rfl⟩ := Option.map_eq_some_iff.mp hd
          have hyE := List.mem_of_getElem? hy
          obtain ⟨hyo, hyf⟩ := hS.rows y (hS.edge y hyE)
          have hyl := hyo.len
          refine ⟨_, _, tg_name, ?_⟩
          refine ds_for ?_
          refine di_seqL ?_
          walk_at "ka"
          refine ⟨L, m0, y, rfl, hm0, by omega, by omega, _, rfl, ?_⟩
          refine ⟨fun l W' Δ' => ∃ m N x7 x8, W' = (W.hide p (knDic P w K p m)).hide qq (knL K (N.map rowD)) ∧ RowKeys m (F ++ N) ∧ (∀ x ∈ N, RowOk n x ∧ firstL (inL L) x = firstL (inL L) r) ∧ (∀ x ∈ E.take j, ∀ i ∈ stepsL (inL L) x, exch x i ∈ F ++ N) ∧ (∀ i ∈ (stepsL (inL L) y).take l, exch y i ∈ F ++ N) ∧ Δ' = [some (dicD P w m0), some (.dat (.tuple (intsD r))), some (.raw (.ref p)), some (.dat (.list (E.map rowD))), some (.dat (.int (0 + (k : Int)))), some (.raw (.ref qq)), some (.dat (rowD y)), x7, x8], ⟨m, N, x7, x8, rfl, hK, hN, hE, fun i hi => (List.not_mem_nil hi).elim, rfl⟩, ?_, ?_⟩
          · clear hK hN hE x7 x8
            rintro l e W' Δ' he2 ⟨m, N, x7, x8, rfl, hK, hN, hE, hl, rfl⟩
            rw [List.map_map, List.getElem?_map] at he2
            obtain ⟨i, hi, rfl⟩ := Option.map_eq_some_iff.mp he2
            have hiS := List.mem_of_getElem? hi
            obtain ⟨hil, hib⟩ := stepsL_mem.mp hiS
            have hxo : RowOk n (exch y i) := hyo.exch (by omega)
            have hxf : firstL (inL L) (exch y i) = firstL (inL L) r := by rw [first_blind cl hyo hn1 hil hib, hyf]
            have hFN := rows_few (n := n) (by omega) hn5 hK.nd fun x hx => by
              rcases List.mem_append.mp hx with hx | hx
              · exact (hS.rows x hx).1
              · exact (hN x hx).1
            have hml : m.length = (F ++ N).length := by
              have := congrArg List.length hK.keys
              rwa [List.length_map, List.length_map] at this
            refine ⟨_, _, tg_name, ?_⟩
            walk_at "ka"
            refine ⟨y, i, rfl, hil, by omega, ?_⟩
            have hks : ∀ j2 ∈ (stepsL (inL L) y).take (l + 1), j2 ∈ (stepsL (inL L) y).take l ∨ j2 = i := fun j2 h => (mem_take_snoc hi).mp h
            refine ds_if ?_
            walk_at "ka"
            refine opd_niZD (Wd.Keeps.self.hide) row_key30 ⟨_, rfl, fun e => ?_, fun e => ?_⟩
            · have e : exch y i ∉ F ++ N := by
                have e2 := hK.has (exch y i)
                intro z
                rw [decide_eq_true z] at e2
                have e : (!(getM m (kd (rowD (exch y i)))).isSome) = true := e
                rw [e2] at e
                cases e
              have hput := hK.put e (.bool true)
              rw [List.append_assoc] at hput
              have hin : exch y i ∈ F ++ (N ++ [exch y i]) := by simp
              have hsub : ∀ z, z ∈ F ++ N → z ∈ F ++ (N ++ [exch y i]) := fun z hz => by
                rw [← List.append_assoc]
                exact List.mem_append_left _ hz
              refine ds_seq (ds_putD2 rfl (by omega) ?_)
              walk_at "ka"
              refine ⟨row_key30, ?_⟩
              rw [List.length_append] at hFN
              refine ds_app (i := 5) rfl (by rw [List.length_map]; omega) ?_
              walk_at "ka"
              refine ⟨_, N ++ [exch y i], _, _, by rw [List.map_append]; rfl, hput, fun x hx => ?_, fun x hx i2 hi2 => hsub _ (hE x hx i2 hi2), fun i2 hi2 => ?_, rfl⟩
              · rcases List.mem_append.mp hx with hx | hx
                · exact hN x hx
                · rw [List.mem_singleton.mp hx]
                  exact ⟨hxo, hxf⟩
              · rcases hks i2 hi2 with h | rfl
                · exact hsub _ (hl i2 h)
                · exact hin
            · have e : exch y i ∈ F ++ N := by
                have e2 := hK.has (exch y i)
                have e : (!(getM m (kd (rowD (exch y i)))).isSome) = false := e
                by_cases z : exch y i ∈ F ++ N
                · exact z
                · rw [decide_eq_false z] at e2
                  rw [e2] at e
                  cases e
              refine ds_next ⟨m, N, _, _, rfl, hK, hN, hE, fun i2 hi2 => ?_, rfl⟩
              rcases hks i2 hi2 with h | rfl
              · exact hl i2 h
              · exact e
          · clear hK hN hE x7 x8
            rintro W' Δ' ⟨m, N, x7, x8, rfl, hK, hN, hE, hl, rfl⟩
            rw [List.length_map, List.length_map, List.take_length] at hl
            refine ⟨m, N, _, x7, x8, rfl, hK, hN, fun x hx i hi => ?_, rfl⟩
            rcases (mem_take_snoc hy).mp hx with hx | rfl
            · exact hE x hx i hi
            · exact hl i hi
        · clear hK hq x6 x7 x8
          rintro W' Δ' ⟨m, N, x6, x7, x8, rfl, hK, hN, hE, rfl⟩
          rw [List.length_map, List.length_map, List.take_length] at hE
          exact ⟨m, N, x6, x7, x8, rfl, hK, hN, hE, rfl⟩
      clear hK x6 x7 x8
      rintro W2 Δ2 ⟨m, N, x6, x7, x8, rfl, hK, hN, hE, rfl⟩
      have hS2 := hS.next hN hE
      refine ds_see (i := 5) hq rfl ?_
      walk_at "ka"
      have shN : SeqAt.shaped (.list (N.map rowD)) = true := by
        have h1 : PyData.canLayAll0 (N.map rowD) = true := canLay_all fun d hd => by
          obtain ⟨r, _, rfl⟩ := List.mem_map.mp hd
          show PyData.canLay0 (.tuple (intsD r)) = true
          simp [PyData.canLay0, canLay_ints]
        have h2 : PyData.depthAll (N.map rowD) ≤ 1 := shs_dep fun d hd => by
          obtain ⟨r, _, rfl⟩ := List.mem_map.mp hd
          show (PyData.tuple (intsD r)).depth ≤ 1
          simp [PyData.depth, depth_intsD]
        unfold SeqAt.shaped
        rw [Bool.and_eq_true, decide_eq_true_iff]
        exact ⟨by simpa only [PyData.canLay0] using h1, by simp only [PyData.depth]; omega⟩
      have hv : PyData.eqv (.list (N.map rowD)) (.list []) = decide (N = []) := by
        cases N <;> simp [PyData.eqv, PyData.eqvAll]
      refine opd_eq shN (by rfl) ⟨_, rfl, fun e => ?_, fun e => ?_⟩
      · rw [hv] at e
        obtain rfl := of_decide_eq_true e
        rw [List.append_nil] at hK hS2
        exact ds_break ⟨m, F, _, _, _, _, _, _, rfl, hK, hS2, rfl⟩
      · rw [hv] at e
        have e := of_decide_eq_false e
        refine ds_next ⟨m, F ++ N, N, _, _, _, _, _, rfl, hK, hS2, ?_, rfl⟩
        have : N.length ≠ 0 := fun z => e (List.length_eq_zero_iff.mp z)
        rw [List.length_append]
        omega
    · rintro W' Δ' ⟨m, F, E, x4, x5, x6, x7, x8, rfl, hK, hS, hk, rfl⟩
      have hFf := rows_few (n := n) (by omega) hn5 hK.nd fun x hx => (hS.rows x hx).1
      rw [List.length_map, rgN_length] at hk
      have : (121 : Int).toNat = 121 := rfl
      omega
  rintro W2 Δ2 ⟨m, F, x3, x4, x5, x6, x7, x8, rfl, hK, hS, rfl⟩
  walk_at "ka"
  refine cal_lstDic Wd.Keeps.self ?_
  rw [hK.keys]
  walk_at "ka"
  refine cal_sortedZL (rows_alike30 _) (.inl fun d hd => ?_) (fun d hd => ?_) ?_
  · obtain ⟨x, hx, rfl⟩ := List.mem_map.mp hd
    have hl := (hS.rows x hx).1.len
    cases x with
    | nil =>
      simp at hl
      omega
    | cons y ys => exact ⟨_, _, rfl⟩
  · obtain ⟨x, _, rfl⟩ := List.mem_map.mp hd
    show (PyData.tuple (intsD x)).depth ≤ 60
    simp [PyData.depth, depth_intsD]
  rw [class_sort hL hn1 hn5 ho hK.nd (fun x => hS.done hn1 ho x)]
  walk_at "ka"
  exact ⟨Wd.Le.refl W |>.hide hp, q⟩

/-! least classes above, greatest classes below -/
theorem glb_of {n : Int} {r s t : List Int} (hr : RowOk n r) (hs : RowOk n s) (ht : RowOk n t) (h1 : LeR t r) (h2 : LeR t s) (h3 : ∀ u, RowOk n u → LeR u r → LeR u s → LeR u t) : IsGlb r s t := by
  obtain ⟨u, hu, k⟩ := glb_ex hr hs
  have e : u = t := LeR.anti hu ht (h3 u hu (k.left hr hs hu) (k.right hr hs hu)) (k.most hr hs hu ht h1 h2)
  rw [← e]
  exact k
section
variable {n : Int} {c : Arc3 → Bool} (cl : BlUp n c)
include cl
end

theorem sh_rows30 {n : Int} {G : List (List Int)} (h : ∀ r ∈ G, RowOk n r) (hz : G.length ≤ 120) : Sh (.tuple (G.map rowD)) 2 151400 := (sh_tup (k := 1) (m := 1260) fun d hd => by
    obtain ⟨r, hr, rfl⟩ := List.mem_map.mp hd
    exact sh_row (h r hr)).up (Nat.le_refl _) (by rw [List.length_map]; omega)
theorem can_rows30 (G : List (List Int)) : PyData.canLayAll0 (G.map rowD) = true := canLay_all fun d hd => by
  obtain ⟨r, _, rfl⟩ := List.mem_map.mp hd
  show PyData.canLay0 (.tuple (intsD r)) = true
  simp [PyData.canLay0, canLay_ints]
theorem any_rows30 (G : List (List Int)) (x : List Int) : ((G.map rowD).any fun z => PyData.eqv z (rowD x)) = decide (x ∈ G) := by
  rw [Bool.eq_iff_iff, decide_eq_true_iff, List.any_map, List.any_eq_true]
  constructor
  · rintro ⟨y, hy, e⟩
    have e : PyData.eqv (.tuple (intsD y)) (.tuple (intsD x)) = true := e
    rw [eqv_rows, decide_eq_true_iff] at e
    exact e ▸ hy
  · intro h
    refine ⟨x, h, ?_⟩
    show PyData.eqv (.tuple (intsD x)) (.tuple (intsD x)) = true
    rw [eqv_rows, decide_eq_true rfl]
theorem lub_self {n : Int} {r : List Int} (hr : RowOk n r) : IsLub r r r := isLub_of hr hr hr (LeR.refl r) (LeR.refl r) fun _ _ h _ => h
theorem glb_self {n : Int} {r : List Int} (hr : RowOk n r) : IsGlb r r r := glb_of hr hr hr (LeR.refl r) (LeR.refl r) fun _ _ h _ => h
def C__law_is_class_right : Con := fun W es P => ∃ (d c : Addr) (n : Int) (L : List Arc3) (r : List Int), es = [.raw (.ref d), .dat (.int n), .dat (.tuple (L.map arcT)), .dat (.tuple (intsD r)), .dat (.tuple ((classL n L r).map rowD))] ∧ HasDeck2 W d c ∧ RuleOk n L ∧ RowOk n r ∧ 1 ≤ n ∧ n ≤ 5 ∧ P (.dat (.bool true))
set_option maxHeartbeats 0 in
theorem ok__law_is_class_right (T : Tx K mg) : GOk P w K mg base 12 T.f__law_is_class_right T.d__law_is_class_right ["deck", "n", "rule", "row", "due"] (SpC K C__law_is_class_right) := by
  refine gfn T.F__law_is_class_right sc__law_is_class_right (fun W es P ⟨_, _, _, _, _, h, _⟩ => by rw [h]; rfl) fun cdv A outer s H E hr => ⟨_, (pss_cons (ps_par (i := 5) (j := 6) (by rfl) sc__law_is_class_right.nd rfl rfl (by decide) rfl rfl (pa_cons (pe_call (ok__law_pick T) (hr.room.mono (by decide)) (by rfl) T.g__law_pick T.F__law_pick.kp T.b__law_pick .nil pass0 (pa_cons (pv 0) (pa_cons (pv 4) pa_nil))) (pa_cons (pe_call (ok__law_pick T) (hr.room.mono (by decide)) (by rfl) T.g__law_pick T.F__law_pick.kp T.b__law_pick .nil pass0 (pa_cons (pv 0) (pa_cons (pv 4) pa_nil))) pa_nil)) (by rfl))
      (pss_cons (ps_if (PW.pt (pw_or (pt_cmpR (op_neK (K := K) rfl hr.room.units) (pe_callB (cr_reprK (K := K) rfl hr.calm hr.room.units) (by rfl) T.m_repr (by decide +kernel) (pa_cons (pe_call (ok_class_of T) hr.room (by rfl) T.g_class_of T.F_class_of.kp T.b_class_of .nil pass0 (pa_cons (pv 1) (pa_cons (pv 2) (pa_cons (pv 5) pa_nil)))) pa_nil)) (pe_callB (cr_reprK (K := K) rfl hr.calm hr.room.units) (by rfl) T.m_repr (by decide +kernel) (pa_cons (pv 4) pa_nil)) (nomark _)) (pw_or1 (pt_cmpR op_notBl (pe_call (ok_are_one T) (hr.room.mono (by decide)) (by rfl) T.g_are_one T.F_are_one.kp T.b_are_one .nil pass0 (pa_cons (pv 1) (pa_cons (pv 2) (pa_cons (pv 5) (pa_cons (pv 6) pa_nil))))) pe_bl (nomark _))))) (pss_one (ps_ret pe_bl)) pss_nil)
      (pss_cons (ps_par (i := 7) (j := 8) (by rfl) sc__law_is_class_right.nd rfl rfl (by decide) rfl rfl (pa_cons (pe_call (ok_first_row T) (hr.room.mono (by decide)) (by rfl) T.g_first_row T.F_first_row.kp T.b_first_row .nil pass0 (pa_cons (pv 1) (pa_cons (pv 2) (pa_cons (pv 5) pa_nil)))) (pa_cons (pe_call (ok_last_row T) (hr.room.mono (by decide)) (by rfl) T.g_last_row T.F_last_row.kp T.b_last_row .nil pass0 (pa_cons (pv 1) (pa_cons (pv 2) (pa_cons (pv 6) pa_nil)))) pa_nil)) (by rfl))
      (pss_cons (ps_if (PW.pt (pw_or (pt_cmpR (op_notInZ (P := P) (w := w) (K := K) rfl rfl rfl (hu65 hr.room)) (pv 7) (pv 4) (by rfl)) (pw_or1 (pt_cmpR (op_notInZ (P := P) (w := w) (K := K) rfl rfl rfl (hu65 hr.room)) (pv 8) (pv 4) (by rfl))))) (pss_one (ps_ret pe_bl)) pss_nil)
      (pss_cons (ps_for PassesOwn.never rfl (pi_seqK (K := K) rfl (pe_tup (pa_cons (pv 3) (pa_cons (pv 5) (pa_cons (pv 6) pa_nil))))) (pg_name (i := 9) sc__law_is_class_right.nd rfl (by first | exact Or.inl rfl | exact Or.inr rfl)) (pss_one (ps_if (PW.pt (pw_or (pt_cmpR op_notBl (pe_call (ok_is_below T) (hr.room.mono (by decide)) (by rfl) T.g_is_below T.F_is_below.kp T.b_is_below .nil pass0 (pa_cons (pv 1) (pa_cons (pv 7) (pa_cons (pv 9) pa_nil)))) pe_bl (nomark _)) (pw_or1 (pt_cmpR op_notBl (pe_call (ok_is_below T) (hr.room.mono (by decide)) (by rfl) T.g_is_below T.F_is_below.kp T.b_is_below .nil pass0 (pa_cons (pv 1) (pa_cons (pv 9) (pa_cons (pv 8) pa_nil)))) pe_bl (nomark _))))) (pss_one (ps_ret pe_bl)) pss_nil)))
      (pss_one (ps_ret (pe_and (pe_cmpR (op_inZ (P := P) (w := w) (K := K) rfl rfl rfl (hu65 hr.room)) (pe_call (ok_least_above T) (hr.room.mono (by decide)) (by rfl) T.g_least_above T.F_least_above.kp T.b_least_above .nil pass0 (pa_cons (pv 1) (pa_cons (pv 5) (pa_cons (pv 6) pa_nil)))) (pv 4) (by rfl)) (pe_one (pe_cmpR (op_inZ (P := P) (w := w) (K := K) rfl rfl rfl (hu65 hr.room)) (pe_call (ok_greatest_below T) (hr.room.mono (by decide)) (by rfl) T.g_greatest_below T.F_greatest_below.kp T.b_greatest_below .nil pass0 (pa_cons (pv 1) (pa_cons (pv 5) (pa_cons (pv 6) pa_nil)))) (pv 4) (by rfl))))))))))), fun W es PX hC => ?_⟩
  obtain ⟨d, c, n, L, r, rfl, hk, hL, ho, hn1, hn5, q⟩ := hC
  have cl := blUp_rule hL
  have hz := arcs_few hL.nd hL.ok (by omega) (by omega)
  have mem : ∀ x, x ∈ classL n L r ↔ RowOk n x ∧ firstL (inL L) x = firstL (inL L) r := fun x => class_mem30 hL hn1 hn5 ho
  have hlen : (classL n L r).length ≤ 120 := Nat.le_trans (List.length_filter_le ..) (rowsAll_len (by omega) hn5).2
  have hpos : 1 ≤ (classL n L r).length := List.length_pos_of_mem ((mem r).mpr ⟨ho, rfl⟩)
  have shD := sh_rows30 (fun x hx => ((mem x).mp hx).1) hlen
  try dsimp only [cx_K, cx_w]
  walk_at "ka"
  refine ⟨d, c, _, _, rfl, .inr rfl, hk, by rw [List.length_map]; omega, by rw [List.length_map]; omega, fun y hy => ?_⟩
  obtain ⟨a, ha, rfl⟩ := List.mem_map.mp hy
  obtain ⟨hao, haf⟩ := (mem a).mp ha
  walk_at "ka"
  refine ⟨d, c, _, _, rfl, .inr rfl, hk, by rw [List.length_map]; omega, by rw [List.length_map]; omega, fun y hy => ?_⟩
  obtain ⟨b, hb, rfl⟩ := List.mem_map.mp hy
  obtain ⟨hbo, hbf⟩ := (mem b).mp hb
  refine da_nil ?_
  refine ⟨_, _, rfl, ?_⟩
  have same : ∀ x, RowOk n x → firstL (inL L) x = firstL (inL L) r → classL n L x = classL n L r := fun x hx hf => by
    show List.filter _ _ = List.filter _ _
    rw [hf, (one_last cl hx ho hn1).mp hf]
  refine ds_seq ?_
  refine ds_no ?_ ?_
  · walk_at "ka"
    refine ⟨n, L, a, rfl, hL, by omega, hao, hn1, hn5, ?_⟩
    rw [same a hao haf]
    walk_at "ka"
    refine cal_reprS shD (by decide) (by decide) ?_
    walk_at "ka"
    refine cal_reprS shD (by decide) (by decide) ?_
    refine opd_neS ⟨_, rfl, ?_⟩
    rw [decide_eq_true rfl]
    refine ⟨fun _ => ?_, fun e => by cases e⟩
    walk_at "ka"
    refine ⟨n, L, a, b, rfl, hL, by omega, hao, hbo, hn1, ?_⟩
    rw [decide_eq_true (haf.trans hbf.symm)]
    walk_at "ka"
    rfl
  have hfo : RowOk n (firstL (inL L) a) := firstL_row hao
  have hlo : RowOk n (lastL (inL L) b) := last_row_ok hbo
  walk_at "ka"
  refine ⟨n, L, a, rfl, hL, by omega, hao, hn1, ?_⟩
  walk_at "ka"
  refine ⟨n, L, b, rfl, hL, by omega, hbo, hn1, ?_⟩
  refine da_nil ?_
  refine ⟨_, _, rfl, ?_⟩
  have inD : ∀ x, RowOk n x → firstL (inL L) x = firstL (inL L) r → (((classL n L r).map rowD).any fun z => PyData.eqv z (.tuple (intsD x))) = true := fun x h1 h2 => by
    show (((classL n L r).map rowD).any fun z => PyData.eqv z (rowD x)) = true
    rw [any_rows30, decide_eq_true ((mem x).mpr ⟨h1, h2⟩)]
  refine ds_seq ?_
  refine ds_no ?_ ?_
  · walk_at "ka"
    refine opd_niZT (shaped_tupI _) (can_rows30 _) ⟨_, rfl, ?_⟩
    rw [inD _ hfo (by rw [first_first cl hao hn1, haf])]
    refine ⟨fun _ => ?_, fun e => by cases e⟩
    walk_at "ka"
    refine opd_niZT (shaped_tupI _) (can_rows30 _) ⟨_, rfl, ?_⟩
    rw [inD _ hlo (by rw [first_last cl hbo hn1, hbf])]
    rfl
  have between : ∀ x, RowOk n x → firstL (inL L) x = firstL (inL L) r → (turnedD (firstL (inL L) a)).all (hasD (turnedD x)) = true ∧ (turnedD x).all (hasD (turnedD (lastL (inL L) b))) = true := fun x hx hxf => by
    rw [leR_iff, leR_iff, haf.trans hxf.symm, ← (one_last cl hx hbo hn1).mp (hxf.trans hbf.symm)]
    exact ⟨first_le hx hn1, le_last hx⟩
  refine ds_seq (ds_for ?_)
  refine di_seqT ?_
  walk_at "ka"
  refine ⟨fun i W' Δ' => W' = W ∧ ∃ x9, Δ' = [some (.raw (.ref d)), some (.dat (.int n)), some (.dat (.tuple (L.map arcT))), some (.dat (.tuple (intsD r))), some (.dat (.tuple ((classL n L r).map rowD))), some (.dat (rowD a)), some (.dat (rowD b)), some (.dat (.tuple (intsD (firstL (inL L) a)))), some (.dat (.tuple (intsD (lastL (inL L) b)))), x9], ⟨rfl, none, rfl⟩, ?_, ?_⟩
  · rintro i e W' Δ' he ⟨rfl, x9, rfl⟩
    obtain ⟨x, hx, hxf, rfl⟩ : ∃ x, RowOk n x ∧ firstL (inL L) x = firstL (inL L) r ∧ e = .dat (rowD x) := by
      have hm := List.mem_of_getElem? he
      simp only [List.map_cons, List.map_nil, List.mem_cons, List.not_mem_nil, or_false] at hm
      rcases hm with rfl | rfl | rfl
      · exact ⟨r, ho, rfl, rfl⟩
      · exact ⟨a, hao, haf, rfl⟩
      · exact ⟨b, hbo, hbf, rfl⟩
    obtain ⟨b1, b2⟩ := between x hx hxf
    refine ⟨_, _, tg_name, ?_⟩
    refine ds_no ?_ ⟨rfl, _, rfl⟩
    walk_at "ka"
    refine ⟨n, _, x, rfl, hfo, hx, by omega, ?_⟩
    rw [b1]
    walk_at "ka"
    refine ⟨fun _ => ?_, fun e => by cases e⟩
    walk_at "ka"
    refine ⟨n, x, _, rfl, hx, hlo, by omega, ?_⟩
    rw [b2]
    walk_at "ka"
    rfl
  · rintro W' Δ' ⟨rfl, x9, rfl⟩
    walk_at "ka"
    refine ⟨n, a, b, rfl, hao, hbo, hn1, by omega, fun t ht hlub => ?_⟩
    have et : firstL (inL L) t = firstL (inL L) r := (lub_two cl hao hao hbo hao ht hao hn1 rfl (hbf.trans haf.symm) hlub (lub_self hao)).trans haf
    walk_at "ka"
    refine opd_inZT (shaped_tupI _) (can_rows30 _) ?_
    rw [inD t ht et]
    refine ⟨_, rfl, fun _ => ?_, fun e => by cases e⟩
    walk_at "ka"
    refine ⟨n, a, b, rfl, hao, hbo, hn1, by omega, fun u hu hglb => ?_⟩
    have eu : firstL (inL L) u = firstL (inL L) r := (glb_two cl hao hao hbo hao hu hao hn1 rfl (hbf.trans haf.symm) hglb (glb_self hao)).trans haf
    walk_at "ka"
    refine opd_inZT (shaped_tupI _) (can_rows30 _) ?_
    rw [inD u hu eu]
    exact ⟨Wd.Le.refl _, q⟩

/-! a, b = (x, y), whatever x and y -/
theorem ds_asgT2 {K : PySem.W.Frag} {W : Wd} {Δ : DEnv} {nx bk ct : Wd → DEnv → Prop} {rt : Wd → DV → Prop} {i j : Nat} {ta : TA} (h : DA K W Δ ta fun es => ∃ a b, es = [a, b] ∧ nx W ((Δ.set i (some a)).set j (some b))) : DS K W Δ (tAsg (tTup ta) (gTup K 2 (gCons (gName i) (gCons (gName j) gNil)))) nx rt bk ct := fun σ H D v iv cn => by
  show ta σ H fun xs H1 => xs.length ≤ sizeLine ∧ _
  refine h σ H v iv _ fun xs H1 es i1 x1 p1 r1 => ?_
  obtain ⟨a, b, rfl, q⟩ := p1
  have hl := r1.length
  refine ⟨by rw [hl]; show 2 ≤ sizeLine; decide, fun p hp => ?_⟩
  have i2 := Wd.inv_new (o := .tup xs) i1 hp
  have x2 := Wd.view_ex (W := W) (Ex.new (o := .tup xs) hp)
  have hs : SqT K (upd H1 p (.tup xs)) p xs := SqT.of upd_same
  cases r1 with
  | cons ra r1 =>
    cases r1 with
    | cons rb r1 =>
      cases r1
      exact ⟨p, _, rfl, hs, rfl, _, _, rfl, _, _, rfl, rfl, cn.nx _ _ _ _ q i2 (x1.trans x2) (((v.mono (x1.trans x2)).set (RepV.mono x2 ra)).set (RepV.mono x2 rb))⟩

/-! a counting step is carried along to the end of the class -/
section
variable {n : Int} {f : Bool} {r : List Int} {i : Nat} (h : Three f r i) (hr : RowOk n r)
include h hr
theorem Three.lies3a : lies3 (recT r (i + 1)) (recT (exch r i) (i + 1)) = true := by
  have hl := h.lt
  obtain ⟨a0, a1, a2⟩ := h.r1v hr
  have hv := h.vals hr
  have lo : lowAt (exch r i) (i + 1) = min (r.getD i 0) (r.getD (i + 2) 0) := by
    show min ((exch r i).getD (i + 1) 0) ((exch r i).getD (i + 2) 0) = _
    rw [a1, a2]
  have hi : highAt (exch r i) (i + 1) = max (r.getD i 0) (r.getD (i + 2) 0) := by
    show max ((exch r i).getD (i + 1) 0) ((exch r i).getD (i + 2) 0) = _
    rw [a1, a2]
  have lo2 : lowAt r (i + 1) = min (r.getD (i + 1) 0) (r.getD (i + 2) 0) := rfl
  have hi2 : highAt r (i + 1) = max (r.getD (i + 1) 0) (r.getD (i + 2) 0) := rfl
  refine lies_of hr (h.r1 hr) (by rw [lo, lo2]; omega) (by rw [hi, hi2]; omega) fun x x1 x2 => ?_
  rw [take_succ_mem (by omega), take_succ_mem (by rw [h.r1len hr]; omega), take_exch_lo (by omega) (Nat.le_refl _), a0]
  constructor
  · rintro (y | rfl)
    · exact .inl y
    · omega
  · rintro (y | rfl)
    · exact .inl y
    · omega
theorem Three.lies3b : lies3 (recT r i) (recT (exch r (i + 1)) i) = true := by
  have hl := h.lt
  obtain ⟨a0, a1, a2⟩ := h.s1v hr
  have hv := h.vals hr
  have lo : lowAt (exch r (i + 1)) i = min (r.getD i 0) (r.getD (i + 2) 0) := by
    unfold lowAt
    rw [a0, a1]
  have hi : highAt (exch r (i + 1)) i = max (r.getD i 0) (r.getD (i + 2) 0) := by
    unfold highAt
    rw [a0, a1]
  have lo2 : lowAt r i = min (r.getD i 0) (r.getD (i + 1) 0) := rfl
  have hi2 : highAt r i = max (r.getD i 0) (r.getD (i + 1) 0) := rfl
  refine lies_of hr (h.s1 hr) (by rw [lo, lo2]; omega) (by rw [hi, hi2]; omega) fun x _ _ => ?_
  rw [take_exch_lo (by omega) (by omega)]
end
theorem carry {n : Int} {c : Arc3 → Bool} {f : Bool} (cl : BlUp n c) (h1 : 1 ≤ n) : ∀ {m : Nat} {r t : List Int} {j : Nat}, RowOk n r → meas n f r ≤ m → j + 1 < r.length → isFall r j = f → c (recT r j) = true → IsEnd c f r t →
    ∃ j', j' + 1 < t.length ∧ isFall t j' = f ∧ recT t j' = recT r j ∧ firstL c (exch t j') = firstL c (exch r j)
  | m, r, t, j, hr, hm, hj, hf, hc, ht => by
    have hl := hr.len
    cases hb : blindL c f r with
    | nil =>
      have e := end_self ht hb
      subst e
      exact ⟨j, hj, hf, rfl, rfl⟩
    | cons k rest =>
      have hk : Bl c f r k := bl_iff.mp (by rw [hb]; simp)
      have lk := hk.lt
      have ne : k ≠ j := fun e => by
        have := hk.blind
        rw [e, hc] at this
        cases this
      have ek := meas_step hr lk hk.fall
      have rk : RowOk n (exch r k) := hr.exch (by omega)
      have rj : RowOk n (exch r j) := hr.exch (by omega)
      have lenk : (exch r k).length = r.length := exch_len lk
      have lenj : (exch r j).length = r.length := exch_len hj
      obtain ⟨t2, ht2⟩ := end_ex (n := n) (c := c) (f := f) (m := _) rk (Nat.le_refl _)
      have et := end_bl cl hr hk ht2 ht
      subst et
      cases m with
      | zero => omega
      | succ m =>
        by_cases far : k + 1 < j ∨ j + 1 < k
        · -- two or more away
          have e1 : recT (exch r k) j = recT r j := arcT_inj (exch_far hr lk hj (by omega))
          obtain ⟨j', a1, a2, a3, a4⟩ := carry cl h1 (m := m) (j := j) rk (by omega) (by omega) (by rw [fall_far lk (by omega)]; exact hf) (by rw [e1]; exact hc) ht2
          refine ⟨j', a1, a2, a3.trans e1, a4.trans ?_⟩
          have bk : c (recT (exch r j) k) = false := by
            rw [show recT (exch r j) k = recT r k from arcT_inj (exch_far hr hj lk (by omega))]
            exact hk.blind
          have := first_blind cl rj h1 (i := k) (by omega) bk
          rw [← this]
          rcases far with z | z
          · rw [exch_comm hj (by omega)]
          · rw [exch_comm lk (by omega)]
        · by_cases z : k = j + 1
          · subst z
            have h : Three f r j := ⟨lk, hf, hk.fall⟩
            obtain ⟨f1, f2, f3, f4⟩ := h.falls hr
            have b1 := cl r _ (j + 1) j hr (h.s1 hr) lk (by omega) (h.lies2 hr) hk.blind
            have bl1 : Bl c f (exch r (j + 1)) j := ⟨by omega, f3, b1⟩
            obtain ⟨t3, ht3⟩ := end_ex (n := n) (c := c) (f := f) (m := _) (h.s2 hr) (Nat.le_refl _)
            have et := end_bl cl rk bl1 ht3 ht2
            subst et
            have e2 := meas_step rk (i := j) (by omega) f3
            have l2 := h.s2len hr
            have e1 : recT (exch (exch r (j + 1)) j) (j + 1) = recT r j := h.same2 hr
            obtain ⟨j', a1, a2, a3, a4⟩ := carry cl h1 (m := m) (j := j + 1) (h.s2 hr) (by omega) (by omega) f4 (by rw [e1]; exact hc) ht3
            refine ⟨j', a1, a2, a3.trans e1, a4.trans ?_⟩
            rw [← exch_three lk]
            have bb : c (recT (exch r j) (j + 1)) = false := cl r _ (j + 1) (j + 1) hr (h.r1 hr) lk (by omega) (h.lies3a hr) hk.blind
            have bc : c (recT (exch (exch r j) (j + 1)) j) = false := by
              rw [h.same1 hr]
              exact hk.blind
            rw [first_blind cl (h.r2 hr) h1 (by rw [h.r2len hr]; omega) bc, first_blind cl rj h1 (by omega) bb]
          · have z : j = k + 1 := by omega
            subst z
            have h : Three f r k := ⟨hj, hk.fall, hf⟩
            obtain ⟨f1, f2, f3, f4⟩ := h.falls hr
            have b1 := cl r _ k (k + 1) hr (h.r1 hr) lk (by omega) (h.lies1 hr) hk.blind
            have bl1 : Bl c f (exch r k) (k + 1) := ⟨by omega, f1, b1⟩
            obtain ⟨t3, ht3⟩ := end_ex (n := n) (c := c) (f := f) (m := _) (h.r2 hr) (Nat.le_refl _)
            have et := end_bl cl rk bl1 ht3 ht2
            subst et
            have e2 := meas_step rk (i := k + 1) (by omega) f1
            have l2 := h.r2len hr
            have e1 : recT (exch (exch r k) (k + 1)) k = recT r (k + 1) := h.same1 hr
            obtain ⟨j', a1, a2, a3, a4⟩ := carry cl h1 (m := m) (j := k) (h.r2 hr) (by omega) (by omega) f2 (by rw [e1]; exact hc) ht3
            refine ⟨j', a1, a2, a3.trans e1, a4.trans ?_⟩
            rw [exch_three hj]
            have bb : c (recT (exch r (k + 1)) k) = false := cl r _ k k hr (h.s1 hr) lk (by omega) (h.lies3b hr) hk.blind
            have bc : c (recT (exch (exch r (k + 1)) k) (k + 1)) = false := by
              rw [h.same2 hr]
              exact hk.blind
            rw [first_blind cl (h.s2 hr) h1 (by rw [h.s2len hr]; omega) bc, first_blind cl rj h1 (by omega) bb]
section
variable {n : Int} {c : Arc3 → Bool} (cl : BlUp n c)
include cl
/-- a step at a fall of a first row leads out of the class -/
theorem first_leaves {r : List Int} (hr : RowOk n r) (h1 : 1 ≤ n) (e : firstL c r = r) {i : Nat} (hi : i + 1 < r.length) (hf : isFall r i = true) : firstL c (exch r i) ≠ r := fun z => by
  have hl := hr.len
  have ri : RowOk n (exch r i) := hr.exch (by omega)
  have l1 := first_le (c := c) ri h1
  rw [z] at l1
  have l2 : LeR (exch r i) r := exch_leF (f := true) hr hi hf
  have e2 := LeR.anti hr ri l1 l2
  have := meas_step (n := n) hr hi hf
  rw [← e2] at this
  omega
/-- a counting step leads out of the class -/
theorem counts_leaves {r : List Int} (hr : RowOk n r) (h1 : 1 ≤ n) {i : Nat} (hi : i + 1 < r.length) (hc : c (recT r i) = true) : firstL c (exch r i) ≠ firstL c r := fun z => by
  have hl := hr.len
  have ri : RowOk n (exch r i) := hr.exch (by omega)
  have key : ∀ s, RowOk n s → i + 1 < s.length → isFall s i = true → c (recT s i) = true → firstL c (exch s i) ≠ firstL c s := fun s hs hi hf hc z => by
    obtain ⟨j', a1, a2, a3, a4⟩ := carry cl h1 (f := true) (m := _) hs (Nat.le_refl _) hi hf hc (first_end hs h1)
    rw [z] at a4
    exact first_leaves cl (firstL_row hs) h1 (first_first cl hs h1) a1 a2 a4
  cases hf : isFall r i with
  | true => exact key r hr hi hf hc z
  | false =>
    refine key (exch r i) ri (by rw [exch_len hi]; exact hi) (by rw [exch_fall hr hi, hf]; rfl) (by rw [recT_same hr hi]; exact hc) ?_
    rw [exch_twice hi]
    exact z.symm
end

def C_law (K : PySem.W.Frag) : Con := fun W es P => ∃ a ns, es = [.raw (.ref a)] ∧ ns.length ≤ 63 ∧ W = Wd.script K a ns ∧ P (.dat (.bool true))
set_option maxHeartbeats 0 in
theorem ok_law (T : Tx K mg) : GOk P w K mg base 13 T.f_law T.d_law ["script"] (SpC K (C_law K)) := by
  refine gfn T.F_law sc_law (fun W es P ⟨_, _, h, _⟩ => by rw [h]; rfl) fun cdv A outer s H E hr => ⟨_, (pss_cons (ps_set (i := 1) sc_law.nd rfl (by first | exact Or.inl rfl | exact Or.inr rfl) (pe_call (ok__law_deck T) (hr.room.mono (by decide)) (by rfl) T.g__law_deck T.F__law_deck.kp T.b__law_deck .nil pass0 (pa_cons (pv 0) pa_nil)))
      (pss_cons (ps_for PassesOwn.never rfl (pi_range1 rfl T.m_range (pa_cons pe_int pa_nil)) (pg_name (i := 2) sc_law.nd rfl (by first | exact Or.inl rfl | exact Or.inr rfl)) (pss_cons (ps_set (i := 3) sc_law.nd rfl (by first | exact Or.inl rfl | exact Or.inr rfl) (pe_call (ok__law_pick T) (hr.room.mono (by decide)) (by rfl) T.g__law_pick T.F__law_pick.kp T.b__law_pick .nil pass0 (pa_cons (pv 1) (pa_cons (pe_lst (pa_cons pe_int (pa_cons pe_int (pa_cons pe_int (pa_cons pe_int (pa_cons pe_int (pa_cons pe_int (pa_cons pe_int pa_nil)))))))) pa_nil))))
      (pss_cons (ps_if (PW.pt (pw_and (pt_cmpR (op_eqK (K := K) rfl hr.room.units) (pv 2) pe_int (nomark _)) (pw_and1 (pt_cmpR (op_eqK (K := K) rfl hr.room.units) (pe_call (ok__law_draw T) (hr.room.mono (by decide)) (by rfl) T.g__law_draw T.F__law_draw.kp T.b__law_draw .nil pass0 (pa_cons (pv 1) (pa_cons pe_int pa_nil))) pe_int (nomark _))))) (pss_one (ps_set (i := 3) sc_law.nd rfl (by first | exact Or.inl rfl | exact Or.inr rfl) pe_int)) pss_nil)
      (pss_cons (ps_asg (pe_tup (pa_cons (pe_call (ok__law_rule T) (hr.room.mono (by decide)) (by rfl) T.g__law_rule T.F__law_rule.kp T.b__law_rule .nil pass0 (pa_cons (pv 1) (pa_cons (pv 3) pa_nil))) (pa_cons (pe_call (ok__law_row T) (hr.room.mono (by decide)) (by rfl) T.g__law_row T.F__law_row.kp T.b__law_row .nil pass0 (pa_cons (pv 1) (pa_cons (pv 3) pa_nil))) pa_nil))) (pg_tupK (K := K) rfl (pg_tup (n := 2) rfl (pgs_cons (pg_name (i := 4) sc_law.nd rfl (by first | exact Or.inl rfl | exact Or.inr rfl)) (pgs_cons (pg_name (i := 5) sc_law.nd rfl (by first | exact Or.inl rfl | exact Or.inr rfl)) pgs_nil)))))
      (pss_cons (ps_set (i := 6) sc_law.nd rfl (by first | exact Or.inl rfl | exact Or.inr rfl) (pe_call (ok__law_known T) (hr.room.mono (by decide)) (by rfl) T.g__law_known T.F__law_known.kp T.b__law_known .nil pass0 (pa_cons (pv 4) pa_nil)))
      (pss_cons (ps_set (i := 7) sc_law.nd rfl (by first | exact Or.inl rfl | exact Or.inr rfl) (pe_call (ok__law_class T) (hr.room.mono (by decide)) (by rfl) T.g__law_class T.F__law_class.kp T.b__law_class .nil pass0 (pa_cons (pv 6) (pa_cons (pv 5) pa_nil))))
      (pss_cons (ps_set (i := 8) sc_law.nd rfl (by first | exact Or.inl rfl | exact Or.inr rfl) (pe_ifExp (pt_cmpR (op_eqK (K := K) rfl hr.room.units) (pe_call (ok__law_draw T) (hr.room.mono (by decide)) (by rfl) T.g__law_draw T.F__law_draw.kp T.b__law_draw .nil pass0 (pa_cons (pv 1) (pa_cons pe_int pa_nil))) pe_int (nomark _)) (pe_call (ok_class_of T) (hr.room.mono (by decide)) (by rfl) T.g_class_of T.F_class_of.kp T.b_class_of .nil pass0 (pa_cons (pv 3) (pa_cons (pv 4) (pa_cons (pv 5) pa_nil)))) (pe_callKw (ok_class_of T) (hr.room.mono (by decide)) (by rfl) T.g_class_of T.F_class_of.kp (T.k_class_of__row_rule_n) pass0 (pk_cons (pv 5) (pk_cons (pv 4) (pk_cons (pv 3) pk_nil))))))
      (pss_cons (ps_if (PW.pt (pw_or (pt_cmpR (op_neK (K := K) rfl hr.room.units) (pe_callB (cr_reprK (K := K) rfl hr.calm hr.room.units) (by rfl) T.m_repr (by decide +kernel) (pa_cons (pv 8) pa_nil)) (pe_callB (cr_reprK (K := K) rfl hr.calm hr.room.units) (by rfl) T.m_repr (by decide +kernel) (pa_cons (pv 7) pa_nil)) (nomark _)) (pw_or1 (pt_not (pt_val (pe_callG (ok__law_is_class_right T) hr (by rfl) T.g__law_is_class_right T.F__law_is_class_right.kp T.b__law_is_class_right .nil (pa_cons (pv 1) (pa_cons (pv 3) (pa_cons (pv 4) (pa_cons (pv 5) (pa_cons (pv 7) pa_nil))))))))))) (pss_one (ps_ret pe_bl)) pss_nil)
      (pss_cons (ps_setLc (i := 9) (own := [("i", 12)]) rfl sc_law.nd rfl rfl (sw_true rfl rfl rfl (by decide +kernel)) (pi_range1 rfl T.m_range (pa_cons (pe_op op_sub (pv 3) pe_int) pa_nil)) (blkOk_by (N := N_law) (sc := defScope s_law) (by decide +kernel)) (fun _ _ _ _ _ => (pg_name (i := 12) sc_law.nd rfl (by first | exact Or.inl rfl | exact Or.inr rfl))) (fun _ _ _ _ _ => (pts_one (pt_cmpR (op_notInZ (P := P) (w := w) (K := K) rfl rfl rfl (hu65 hr.room)) (pv 12) (pe_call (ok__law_blind (P := P) (w := w) (base := base) T) (hr.room.mono (by decide)) (by rfl) T.g__law_blind T.F__law_blind.kp T.b__law_blind .nil pass0 (pa_cons (pv 6) (pa_cons (pv 5) pa_nil))) (by rfl)))) (fun _ _ _ _ _ => (pv 12)))
      (pss_one (ps_if (pt_cmpR (op_neK (K := K) rfl hr.room.units) (pv 9) (pe_lst pa_nil) (nomark _)) (pss_cons (ps_set (i := 10) sc_law.nd rfl (by first | exact Or.inl rfl | exact Or.inr rfl) (pe_call (ok__law_exchanged T) (hr.room.mono (by decide)) (by rfl) T.g__law_exchanged T.F__law_exchanged.kp T.b__law_exchanged .nil pass0 (pa_cons (pv 5) (pa_cons (pe_call (ok__law_pick T) (hr.room.mono (by decide)) (by rfl) T.g__law_pick T.F__law_pick.kp T.b__law_pick .nil pass0 (pa_cons (pv 1) (pa_cons (pv 9) pa_nil))) pa_nil))))
      (pss_cons (ps_set (i := 11) sc_law.nd rfl (by first | exact Or.inl rfl | exact Or.inr rfl) (pe_call (ok_class_of T) (hr.room.mono (by decide)) (by rfl) T.g_class_of T.F_class_of.kp T.b_class_of .nil pass0 (pa_cons (pv 3) (pa_cons (pv 4) (pa_cons (pv 10) pa_nil)))))
      (pss_one (ps_if (PW.pt (pw_or (pt_cmpR (op_notInZ (P := P) (w := w) (K := K) rfl rfl rfl (hu65 hr.room)) (pv 10) (pv 11) (by rfl)) (pw_or (pt_cmpR (op_neK (K := K) rfl hr.room.units) (pe_lc (own := [("it", 13)]) rfl sc_law.nd (pi_seqK (K := K) rfl (pv 11)) (blkOk_by (N := N_law) (sc := defScope s_law) (by decide +kernel)) (fun _ _ _ _ _ => (pg_name (i := 13) sc_law.nd rfl (by first | exact Or.inl rfl | exact Or.inr rfl))) (fun _ _ _ _ _ => (pts_one (pt_cmpR (op_inZ (P := P) (w := w) (K := K) rfl rfl rfl (hu65 hr.room)) (pv 13) (pv 7) (by rfl)))) (fun _ _ _ _ _ => pe_int)) (pe_lst pa_nil) (nomark _)) (pw_or1 (pt_cmpR op_notBl (pe_call (ok_are_one T) (hr.room.mono (by decide)) (by rfl) T.g_are_one T.F_are_one.kp T.b_are_one .nil pass0 (pa_cons (pv 3) (pa_cons (pv 4) (pa_cons (pv 10) (pa_cons (pv 5) pa_nil))))) pe_bl (nomark _)))))) (pss_one (ps_ret pe_bl)) pss_nil)))) pss_nil)))))))))))
      (pss_one (ps_ret pe_bl)))), fun W es PX hC => ?_⟩
  obtain ⟨a0, ns, rfl, hl, rfl, q⟩ := hC
  try dsimp only [cx_K, cx_w]
  refine ds_seq (ds_deck2 rfl hl fun W dk ck hk hle => ?_)
  refine ds_seq (ds_for ?_)
  walk_at "ka"
  refine ⟨by decide, fun i W' Δ' => W' = W ∧ ∃ x2 x3 x4 x5 x6 x7 x8 x9 x10 x11, Δ' = [some (.raw (.ref a0)), some (.raw (.ref dk)), x2, x3, x4, x5, x6, x7, x8, x9, x10, x11, none, none], ⟨rfl, none, none, none, none, none, none, none, none, none, none, rfl⟩, ?_, ?_⟩
  · rintro i e W1 Δ' he ⟨rfl, x2, x3, x4, x5, x6, x7, x8, x9, x10, x11, rfl⟩
    obtain ⟨hi, rfl⟩ := rgN_at he
    refine ⟨_, _, tg_name, ?_⟩
    refine ds_cut (fun W2 Δ2 => W2 = W1 ∧ ∃ n : Int, (1 ≤ n ∧ n ≤ 4) ∧ Δ2 = [some (.raw (.ref a0)), some (.raw (.ref dk)), some (.dat (.int (0 + (i : Int)))), some (.dat (.int n)), x4, x5, x6, x7, x8, x9, x10, x11, none, none]) ?_ ?_
    · walk_at "ka"
      refine ⟨dk, ck, _, _, rfl, .inl rfl, hk, by simp, by simp, fun x hx => ?_⟩
      obtain ⟨n, rfl, hn⟩ : ∃ n : Int, x = .int n ∧ (1 ≤ n ∧ n ≤ 4) := by
        simp only [List.mem_cons, List.not_mem_nil, or_false] at hx
        rcases hx with rfl | rfl | rfl | rfl | rfl | rfl | rfl
        all_goals exact ⟨_, rfl, by decide, by decide⟩
      exact ⟨rfl, n, hn, rfl⟩
    rintro W2 Δ2 ⟨rfl, n, ⟨hn1, hn4⟩, rfl⟩
    refine ds_cut (fun W3 Δ2 => W3 = W2 ∧ ∃ n : Int, (1 ≤ n ∧ n ≤ 5) ∧ Δ2 = [some (.raw (.ref a0)), some (.raw (.ref dk)), some (.dat (.int (0 + (i : Int)))), some (.dat (.int n)), x4, x5, x6, x7, x8, x9, x10, x11, none, none]) ?_ ?_
    · refine ds_if ?_
      walk_at "ka"
      refine opd_eq rfl rfl ⟨_, rfl, fun _ => ?_, fun _ => ⟨nofun, fun _ => ds_next ⟨rfl, n, ⟨hn1, by omega⟩, rfl⟩⟩⟩
      walk_at "ka"
      refine ⟨dk, ck, _, rfl, hk, by decide, by decide, fun t t0 t1 => ?_⟩
      walk_at "ka"
      refine opd_eq rfl rfl ⟨_, rfl, fun _ => ?_, fun _ => ds_next ⟨rfl, n, ⟨hn1, by omega⟩, rfl⟩⟩
      walk_at "ka"
      exact ⟨rfl, 5, by decide, rfl⟩
    clear hn1 hn4 n
    rintro W3 Δ2 ⟨rfl, n, ⟨hn1, hn5⟩, rfl⟩
    refine ds_cut (fun W4 Δ2 => W4 = W3 ∧ ∃ (L : List Arc3) (r : List Int), RuleOk n L ∧ RowOk n r ∧ Δ2 = [some (.raw (.ref a0)), some (.raw (.ref dk)), some (.dat (.int (0 + (i : Int)))), some (.dat (.int n)), some (.dat (.tuple (L.map arcT))), some (.dat (.tuple (intsD r))), x6, x7, x8, x9, x10, x11, none, none]) ?_ ?_
    · refine ds_asgT2 ?_
      walk_at "ka"
      refine ⟨dk, ck, n, rfl, hk, hn1, by omega, fun L hL _ => ?_⟩
      walk_at "ka"
      refine ⟨dk, ck, n, rfl, hk, hn1, by omega, fun r ho => ?_⟩
      refine da_nil ?_
      exact ⟨_, _, rfl, rfl, L, r, hL, ho, rfl⟩
    rintro W4 Δ2 ⟨rfl, L, r, hL, ho, rfl⟩
    have hz := arcs_few hL.nd hL.ok (by omega) (by omega)
    have cl := blUp_rule hL
    have mem : ∀ x, x ∈ classL n L r ↔ RowOk n x ∧ firstL (inL L) x = firstL (inL L) r := fun x => class_mem30 hL hn1 hn5 ho
    have hlen : (classL n L r).length ≤ 120 := Nat.le_trans (List.length_filter_le ..) (rowsAll_len (by omega) hn5).2
    have shD := sh_rows30 (fun x hx => ((mem x).mp hx).1) hlen
    walk_at "ka"
    refine ⟨L, rfl, by omega, fun m hm => ?_⟩
    walk_at "ka"
    refine ⟨n, L, m, r, rfl, hm, hL, ho, hn1, hn5, ?_⟩
    refine ds_cut (fun W5 Δ2 => W5 = W4 ∧ Δ2 = [some (.raw (.ref a0)), some (.raw (.ref dk)), some (.dat (.int (0 + (i : Int)))), some (.dat (.int n)), some (.dat (.tuple (L.map arcT))), some (.dat (.tuple (intsD r))), some (dicD P w m), some (.dat (.tuple ((classL n L r).map rowD))), some (.dat (.tuple ((classL n L r).map rowD))), x9, x10, x11, none, none]) ?_ ?_
    · walk_at "ka"
      refine ⟨dk, ck, _, rfl, hk, by decide, by decide, fun t t0 t1 => ?_⟩
      walk_at "ka"
      refine opd_eq rfl rfl ⟨_, rfl, fun _ => ?_, fun _ => ?_⟩
      · walk_at "ka"
        exact ⟨n, L, r, rfl, hL, by omega, ho, hn1, hn5, rfl, rfl⟩
      · walk_at "ka"
        exact ⟨n, L, r, rfl, hL, by omega, ho, hn1, hn5, rfl, rfl⟩
    rintro W5 Δ2 ⟨rfl, rfl⟩
    refine ds_seq ?_
    refine ds_no ?_ ?_
    · walk_at "ka"
      refine cal_reprS shD (by decide) (by decide) ?_
      walk_at "ka"
      refine cal_reprS shD (by decide) (by decide) ?_
      refine opd_neS ⟨_, rfl, ?_⟩
      rw [decide_eq_true rfl]
      refine ⟨fun _ => ?_, fun e => by cases e⟩
      walk_at "ka"
      refine ⟨dk, ck, n, L, r, rfl, hk, hL, ho, hn1, hn5, ?_⟩
      exact ⟨_, rfl, rfl⟩
    walk_at "ka"
    have hrl := ho.len
    refine de_lcM (List.range (r.length - 1)) (fun i => DV.dat (.int (i : Nat))) (fun i => inL L (recT r i)) (fun i => .int (i : Nat)) ?_ (by rw [List.length_range]; omega) ?_ ?_
    · walk_at "ka"
      refine ⟨by omega, ?_⟩
      rw [show (n - 1).toNat = r.length - 1 by omega, rg_range, List.map_map]
      rfl
    · intro i2 hi2 W'' hW
      rw [List.mem_range] at hi2
      refine ⟨_, _, tg_name, by simp, ?_⟩
      walk_at "ka"
      refine ⟨L, m, r, rfl, hm, by omega, by omega, ?_⟩
      walk_at "ka"
      refine opd_niZL (by rfl) ?_ ⟨_, rfl, ?_, fun _ => ?_⟩
      · exact canLay_all fun d hd => by
          obtain ⟨x, _, rfl⟩ := List.mem_map.mp hd
          rfl
      · rw [Bool.eq_iff_iff, Bool.not_eq_true', ← Bool.not_eq_true, List.any_map, List.any_eq_true]
        constructor
        · intro h
          cases e : inL L (recT r i2) with
          | true => rfl
          | false => exact absurd ⟨i2, stepsL_mem.mpr ⟨by omega, e⟩, by show PyData.eqv (.int (i2 : Nat)) (.int (i2 : Nat)) = true; rw [eqv_int, decide_eq_true rfl]⟩ h
        · rintro h ⟨x, hx, e⟩
          have e : PyData.eqv (.int (x : Nat)) (.int (i2 : Nat)) = true := e
          rw [eqv_int, decide_eq_true_iff] at e
          obtain rfl : x = i2 := by omega
          rw [(stepsL_mem.mp hx).2] at h
          cases h
      · walk_at "ka"
        rfl
    have hB : ∀ i2 ∈ (List.range (r.length - 1)).filter (fun i => inL L (recT r i)), i2 + 1 < r.length ∧ inL L (recT r i2) = true := fun i2 h => by
      rw [List.mem_filter, List.mem_range] at h
      exact ⟨by omega, h.2⟩
    have hBl : ((List.range (r.length - 1)).filter (fun i => inL L (recT r i))).length ≤ 60 := Nat.le_trans (List.length_filter_le ..) (by rw [List.length_range]; omega)
    generalize (List.range (r.length - 1)).filter (fun i => inL L (recT r i)) = B at hB hBl
    have hsh : SeqAt.shaped (.list (B.map fun i : Nat => PyData.int i)) = true := by
      have := shaped_listI (B.map fun i : Nat => (i : Int))
      unfold intsD at this
      rw [List.map_map] at this
      exact this
    have hv : PyData.eqv (.list (B.map fun i : Nat => PyData.int i)) (.list []) = decide (B = []) := by
      cases B <;> simp [PyData.eqv, PyData.eqvAll]
    refine ds_if ?_
    walk_at "ka"
    refine opd_ne hsh (by rfl) ⟨_, rfl, fun e => ?_, fun e => ds_next ⟨rfl, _, _, _, _, _, _, _, _, _, _, rfl⟩⟩
    rw [hv] at e
    have e : B ≠ [] := by simpa using e
    walk_at "ka"
    refine ⟨dk, ck, _, _, rfl, .inl rfl, hk, by rw [List.length_map]; exact List.length_pos_iff.mpr e, by rw [List.length_map]; omega, fun y hy => ?_⟩
    obtain ⟨b, hb, rfl⟩ := List.mem_map.mp hy
    obtain ⟨hb1, hb2⟩ := hB b hb
    walk_at "ka"
    refine ⟨r, b, rfl, hb1, by omega, ?_⟩
    have hxo : RowOk n (exch r b) := ho.exch (by omega)
    have hne := counts_leaves cl ho hn1 hb1 hb2
    have memx : ∀ x, x ∈ classL n L (exch r b) ↔ RowOk n x ∧ firstL (inL L) x = firstL (inL L) (exch r b) := fun x => class_mem30 hL hn1 hn5 hxo
    have hlenx : (classL n L (exch r b)).length ≤ 120 := Nat.le_trans (List.length_filter_le ..) (rowsAll_len (by omega) hn5).2
    walk_at "ka"
    refine ⟨n, L, exch r b, rfl, hL, by omega, hxo, hn1, hn5, ?_⟩
    refine ds_no ?_ ⟨rfl, _, _, _, _, _, _, _, _, _, _, rfl⟩
    walk_at "ka"
    refine opd_niZT (shaped_tupI _) (can_rows30 _) ⟨_, rfl, ?_⟩
    rw [show (((classL n L (exch r b)).map rowD).any fun z => PyData.eqv z (.tuple (intsD (exch r b)))) = true by
      show (((classL n L (exch r b)).map rowD).any fun z => PyData.eqv z (rowD (exch r b))) = true
      rw [any_rows30, decide_eq_true ((memx _).mpr ⟨hxo, rfl⟩)]]
    refine ⟨fun _ => ?_, fun e => by cases e⟩
    walk_at "ka"
    refine de_lcM (classL n L (exch r b)) (fun x => DV.dat (rowD x)) (fun _ => false) (fun _ => .int 1) (di_seqT ?_) (by omega) ?_ ?_
    · walk_at "ka"
      exact List.map_map ..
    · intro x hx W'' hW
      refine ⟨_, _, tg_name, by simp, ?_⟩
      walk_at "ka"
      refine opd_inZT (shaped_tupI _) (can_rows30 _) ?_
      rw [any_rows30, decide_eq_false fun h => hne (by rw [← ((memx x).mp hx).2, ((mem x).mp h).2])]
      exact ⟨_, rfl, rfl, nofun⟩
    rw [show ((classL n L (exch r b)).filter fun _ => false) = [] by simp]
    walk_at "ka"
    refine opd_ne (by rfl) (by rfl) ⟨_, rfl, fun _ => ?_, fun e => by cases e⟩
    walk_at "ka"
    refine ⟨n, L, exch r b, r, rfl, hL, by omega, hxo, ho, hn1, ?_⟩
    rw [decide_eq_false hne]
    walk_at "ka"
    rfl
  · rintro W' Δ' ⟨rfl, x2, x3, x4, x5, x6, x7, x8, x9, x10, x11, rfl⟩
    walk_at "ka"
    exact ⟨hle, q⟩
theorem law_starts : ∀ (K : PySem.W.Frag) (H : Hp) (a : Addr) (ns : List Int), ns.length ≤ 63 → Only H → SqL K H a (ns.map V.int) → SpC K (C_law K) [.ref a] H (fun v _ => v = .bl true) fun _ _ _ => False :=
  fun K H a ns hl _ hS => law_start (fun a ns hl => ⟨a, ns, rfl, hl, rfl, rfl⟩) hl hS

end
set_option maxHeartbeats 0 in
theorem all_mk {l : PySem.W.OpenLaw} {w : World} {K : PySem.W.Frag} {h : Heap} {mg : Str → Option Value} {fa : Addr} (X : K.In h) (G : h.Ns mainGlobals mg) (hfa : mg "law" = some (.ref fa))
    {f0 : Addr} {od0 an0 : Option Addr} {sl0 : Array (Option Value)} {oc0 kV0 dc0 pm0 cd0 ct0 : Value}
    (a0 : PySem.W.nsIn K mainGlobals "is_number" = some (some (.ref f0))) (l0 : K.lookup f0 = some ⟨oc0, od0, .func (PySem.W.fnOf "is_number" "is_number" (defArgs s_is_number) (defBody s_is_number) (defScope s_is_number) .none kV0 dc0 pm0 an0 cd0 ct0), sl0⟩) (c0 : PySem.W.codeIn K cd0 "is_number" = true) (k0 : PySem.W.keepIn K (.ref f0) = true)
    {f1 : Addr} {od1 an1 : Option Addr} {sl1 : Array (Option Value)} {oc1 kV1 dc1 pm1 cd1 ct1 : Value}
    (a1 : PySem.W.nsIn K mainGlobals "is_number_from" = some (some (.ref f1))) (l1 : K.lookup f1 = some ⟨oc1, od1, .func (PySem.W.fnOf "is_number_from" "is_number_from" (defArgs s_is_number_from) (defBody s_is_number_from) (defScope s_is_number_from) .none kV1 dc1 pm1 an1 cd1 ct1), sl1⟩) (c1 : PySem.W.codeIn K cd1 "is_number_from" = true) (k1 : PySem.W.keepIn K (.ref f1) = true)
    {f2 : Addr} {od2 an2 : Option Addr} {sl2 : Array (Option Value)} {oc2 kV2 dc2 pm2 cd2 ct2 : Value}
    (a2 : PySem.W.nsIn K mainGlobals "are_numbers" = some (some (.ref f2))) (l2 : K.lookup f2 = some ⟨oc2, od2, .func (PySem.W.fnOf "are_numbers" "are_numbers" (defArgs s_are_numbers) (defBody s_are_numbers) (defScope s_are_numbers) .none kV2 dc2 pm2 an2 cd2 ct2), sl2⟩) (c2 : PySem.W.codeIn K cd2 "are_numbers" = true) (k2 : PySem.W.keepIn K (.ref f2) = true)
    {f3 : Addr} {od3 an3 : Option Addr} {sl3 : Array (Option Value)} {oc3 kV3 dc3 pm3 cd3 ct3 : Value}
    (a3 : PySem.W.nsIn K mainGlobals "are_ascending_numbers" = some (some (.ref f3))) (l3 : K.lookup f3 = some ⟨oc3, od3, .func (PySem.W.fnOf "are_ascending_numbers" "are_ascending_numbers" (defArgs s_are_ascending_numbers) (defBody s_are_ascending_numbers) (defScope s_are_ascending_numbers) .none kV3 dc3 pm3 an3 cd3 ct3), sl3⟩) (c3 : PySem.W.codeIn K cd3 "are_ascending_numbers" = true) (k3 : PySem.W.keepIn K (.ref f3) = true)
    {f4 : Addr} {od4 an4 : Option Addr} {sl4 : Array (Option Value)} {oc4 kV4 dc4 pm4 cd4 ct4 : Value}
    (a4 : PySem.W.nsIn K mainGlobals "is_row" = some (some (.ref f4))) (l4 : K.lookup f4 = some ⟨oc4, od4, .func (PySem.W.fnOf "is_row" "is_row" (defArgs s_is_row) (defBody s_is_row) (defScope s_is_row) .none kV4 dc4 pm4 an4 cd4 ct4), sl4⟩) (c4 : PySem.W.codeIn K cd4 "is_row" = true) (k4 : PySem.W.keepIn K (.ref f4) = true)
    {f5 : Addr} {od5 an5 : Option Addr} {sl5 : Array (Option Value)} {oc5 kV5 dc5 pm5 cd5 ct5 : Value}
    (a5 : PySem.W.nsIn K mainGlobals "check_row" = some (some (.ref f5))) (l5 : K.lookup f5 = some ⟨oc5, od5, .func (PySem.W.fnOf "check_row" "check_row" (defArgs s_check_row) (defBody s_check_row) (defScope s_check_row) .none kV5 dc5 pm5 an5 cd5 ct5), sl5⟩) (c5 : PySem.W.codeIn K cd5 "check_row" = true) (k5 : PySem.W.keepIn K (.ref f5) = true)
    {f6 : Addr} {od6 an6 : Option Addr} {sl6 : Array (Option Value)} {oc6 kV6 dc6 pm6 cd6 ct6 : Value}
    (a6 : PySem.W.nsIn K mainGlobals "check_place" = some (some (.ref f6))) (l6 : K.lookup f6 = some ⟨oc6, od6, .func (PySem.W.fnOf "check_place" "check_place" (defArgs s_check_place) (defBody s_check_place) (defScope s_check_place) .none kV6 dc6 pm6 an6 cd6 ct6), sl6⟩) (c6 : PySem.W.codeIn K cd6 "check_place" = true) (k6 : PySem.W.keepIn K (.ref f6) = true)
    {f7 : Addr} {od7 an7 : Option Addr} {sl7 : Array (Option Value)} {oc7 kV7 dc7 pm7 cd7 ct7 : Value}
    (a7 : PySem.W.nsIn K mainGlobals "turned_pairs" = some (some (.ref f7))) (l7 : K.lookup f7 = some ⟨oc7, od7, .func (PySem.W.fnOf "turned_pairs" "turned_pairs" (defArgs s_turned_pairs) (defBody s_turned_pairs) (defScope s_turned_pairs) .none kV7 dc7 pm7 an7 cd7 ct7), sl7⟩) (c7 : PySem.W.codeIn K cd7 "turned_pairs" = true) (k7 : PySem.W.keepIn K (.ref f7) = true)
    {f8 : Addr} {od8 an8 : Option Addr} {sl8 : Array (Option Value)} {oc8 kV8 dc8 pm8 cd8 ct8 : Value}
    (a8 : PySem.W.nsIn K mainGlobals "mirror" = some (some (.ref f8))) (l8 : K.lookup f8 = some ⟨oc8, od8, .func (PySem.W.fnOf "mirror" "mirror" (defArgs s_mirror) (defBody s_mirror) (defScope s_mirror) .none kV8 dc8 pm8 an8 cd8 ct8), sl8⟩) (c8 : PySem.W.codeIn K cd8 "mirror" = true) (k8 : PySem.W.keepIn K (.ref f8) = true)
    {f9 : Addr} {od9 an9 : Option Addr} {sl9 : Array (Option Value)} {oc9 kV9 dc9 pm9 cd9 ct9 : Value}
    (a9 : PySem.W.nsIn K mainGlobals "exchanged" = some (some (.ref f9))) (l9 : K.lookup f9 = some ⟨oc9, od9, .func (PySem.W.fnOf "exchanged" "exchanged" (defArgs s_exchanged) (defBody s_exchanged) (defScope s_exchanged) .none kV9 dc9 pm9 an9 cd9 ct9), sl9⟩) (c9 : PySem.W.codeIn K cd9 "exchanged" = true) (k9 : PySem.W.keepIn K (.ref f9) = true)
    {f10 : Addr} {od10 an10 : Option Addr} {sl10 : Array (Option Value)} {oc10 kV10 dc10 pm10 cd10 ct10 : Value}
    (a10 : PySem.W.nsIn K mainGlobals "row_turning" = some (some (.ref f10))) (l10 : K.lookup f10 = some ⟨oc10, od10, .func (PySem.W.fnOf "row_turning" "row_turning" (defArgs s_row_turning) (defBody s_row_turning) (defScope s_row_turning) .none kV10 dc10 pm10 an10 cd10 ct10), sl10⟩) (c10 : PySem.W.codeIn K cd10 "row_turning" = true) (k10 : PySem.W.keepIn K (.ref f10) = true)
    {f11 : Addr} {od11 an11 : Option Addr} {sl11 : Array (Option Value)} {oc11 kV11 dc11 pm11 cd11 ct11 : Value}
    (a11 : PySem.W.nsIn K mainGlobals "pairs_only_in" = some (some (.ref f11))) (l11 : K.lookup f11 = some ⟨oc11, od11, .func (PySem.W.fnOf "pairs_only_in" "pairs_only_in" (defArgs s_pairs_only_in) (defBody s_pairs_only_in) (defScope s_pairs_only_in) .none kV11 dc11 pm11 an11 cd11 ct11), sl11⟩) (c11 : PySem.W.codeIn K cd11 "pairs_only_in" = true) (k11 : PySem.W.keepIn K (.ref f11) = true)
    {f12 : Addr} {od12 an12 : Option Addr} {sl12 : Array (Option Value)} {oc12 kV12 dc12 pm12 cd12 ct12 : Value}
    (a12 : PySem.W.nsIn K mainGlobals "pairs_not_below" = some (some (.ref f12))) (l12 : K.lookup f12 = some ⟨oc12, od12, .func (PySem.W.fnOf "pairs_not_below" "pairs_not_below" (defArgs s_pairs_not_below) (defBody s_pairs_not_below) (defScope s_pairs_not_below) .none kV12 dc12 pm12 an12 cd12 ct12), sl12⟩) (c12 : PySem.W.codeIn K cd12 "pairs_not_below" = true) (k12 : PySem.W.keepIn K (.ref f12) = true)
    {f13 : Addr} {od13 an13 : Option Addr} {sl13 : Array (Option Value)} {oc13 kV13 dc13 pm13 cd13 ct13 : Value}
    (a13 : PySem.W.nsIn K mainGlobals "is_below" = some (some (.ref f13))) (l13 : K.lookup f13 = some ⟨oc13, od13, .func (PySem.W.fnOf "is_below" "is_below" (defArgs s_is_below) (defBody s_is_below) (defScope s_is_below) .none kV13 dc13 pm13 an13 cd13 ct13), sl13⟩) (c13 : PySem.W.codeIn K cd13 "is_below" = true) (k13 : PySem.W.keepIn K (.ref f13) = true)
    {f14 : Addr} {od14 an14 : Option Addr} {sl14 : Array (Option Value)} {oc14 kV14 dc14 pm14 cd14 ct14 : Value}
    (a14 : PySem.W.nsIn K mainGlobals "chained" = some (some (.ref f14))) (l14 : K.lookup f14 = some ⟨oc14, od14, .func (PySem.W.fnOf "chained" "chained" (defArgs s_chained) (defBody s_chained) (defScope s_chained) .none kV14 dc14 pm14 an14 cd14 ct14), sl14⟩) (c14 : PySem.W.codeIn K cd14 "chained" = true) (k14 : PySem.W.keepIn K (.ref f14) = true)
    {f15 : Addr} {od15 an15 : Option Addr} {sl15 : Array (Option Value)} {oc15 kV15 dc15 pm15 cd15 ct15 : Value}
    (a15 : PySem.W.nsIn K mainGlobals "least_above" = some (some (.ref f15))) (l15 : K.lookup f15 = some ⟨oc15, od15, .func (PySem.W.fnOf "least_above" "least_above" (defArgs s_least_above) (defBody s_least_above) (defScope s_least_above) .none kV15 dc15 pm15 an15 cd15 ct15), sl15⟩) (c15 : PySem.W.codeIn K cd15 "least_above" = true) (k15 : PySem.W.keepIn K (.ref f15) = true)
    {f16 : Addr} {od16 an16 : Option Addr} {sl16 : Array (Option Value)} {oc16 kV16 dc16 pm16 cd16 ct16 : Value}
    (a16 : PySem.W.nsIn K mainGlobals "greatest_below" = some (some (.ref f16))) (l16 : K.lookup f16 = some ⟨oc16, od16, .func (PySem.W.fnOf "greatest_below" "greatest_below" (defArgs s_greatest_below) (defBody s_greatest_below) (defScope s_greatest_below) .none kV16 dc16 pm16 an16 cd16 ct16), sl16⟩) (c16 : PySem.W.codeIn K cd16 "greatest_below" = true) (k16 : PySem.W.keepIn K (.ref f16) = true)
    {f17 : Addr} {od17 an17 : Option Addr} {sl17 : Array (Option Value)} {oc17 kV17 dc17 pm17 cd17 ct17 : Value}
    (a17 : PySem.W.nsIn K mainGlobals "all_rows" = some (some (.ref f17))) (l17 : K.lookup f17 = some ⟨oc17, od17, .func (PySem.W.fnOf "all_rows" "all_rows" (defArgs s_all_rows) (defBody s_all_rows) (defScope s_all_rows) .none kV17 dc17 pm17 an17 cd17 ct17), sl17⟩) (c17 : PySem.W.codeIn K cd17 "all_rows" = true) (k17 : PySem.W.keepIn K (.ref f17) = true)
    {f18 : Addr} {od18 an18 : Option Addr} {sl18 : Array (Option Value)} {oc18 kV18 dc18 pm18 cd18 ct18 : Value}
    (a18 : PySem.W.nsIn K mainGlobals "is_arc" = some (some (.ref f18))) (l18 : K.lookup f18 = some ⟨oc18, od18, .func (PySem.W.fnOf "is_arc" "is_arc" (defArgs s_is_arc) (defBody s_is_arc) (defScope s_is_arc) .none kV18 dc18 pm18 an18 cd18 ct18), sl18⟩) (c18 : PySem.W.codeIn K cd18 "is_arc" = true) (k18 : PySem.W.keepIn K (.ref f18) = true)
    {f19 : Addr} {od19 an19 : Option Addr} {sl19 : Array (Option Value)} {oc19 kV19 dc19 pm19 cd19 ct19 : Value}
    (a19 : PySem.W.nsIn K mainGlobals "arc_at" = some (some (.ref f19))) (l19 : K.lookup f19 = some ⟨oc19, od19, .func (PySem.W.fnOf "arc_at" "arc_at" (defArgs s_arc_at) (defBody s_arc_at) (defScope s_arc_at) .none kV19 dc19 pm19 an19 cd19 ct19), sl19⟩) (c19 : PySem.W.codeIn K cd19 "arc_at" = true) (k19 : PySem.W.keepIn K (.ref f19) = true)
    {f20 : Addr} {od20 an20 : Option Addr} {sl20 : Array (Option Value)} {oc20 kV20 dc20 pm20 cd20 ct20 : Value}
    (a20 : PySem.W.nsIn K mainGlobals "narrowed" = some (some (.ref f20))) (l20 : K.lookup f20 = some ⟨oc20, od20, .func (PySem.W.fnOf "narrowed" "narrowed" (defArgs s_narrowed) (defBody s_narrowed) (defScope s_narrowed) .none kV20 dc20 pm20 an20 cd20 ct20), sl20⟩) (c20 : PySem.W.codeIn K cd20 "narrowed" = true) (k20 : PySem.W.keepIn K (.ref f20) = true)
    {f21 : Addr} {od21 an21 : Option Addr} {sl21 : Array (Option Value)} {oc21 kV21 dc21 pm21 cd21 ct21 : Value}
    (a21 : PySem.W.nsIn K mainGlobals "are_arcs" = some (some (.ref f21))) (l21 : K.lookup f21 = some ⟨oc21, od21, .func (PySem.W.fnOf "are_arcs" "are_arcs" (defArgs s_are_arcs) (defBody s_are_arcs) (defScope s_are_arcs) .none kV21 dc21 pm21 an21 cd21 ct21), sl21⟩) (c21 : PySem.W.codeIn K cd21 "are_arcs" = true) (k21 : PySem.W.keepIn K (.ref f21) = true)
    {f22 : Addr} {od22 an22 : Option Addr} {sl22 : Array (Option Value)} {oc22 kV22 dc22 pm22 cd22 ct22 : Value}
    (a22 : PySem.W.nsIn K mainGlobals "are_ascending_arcs" = some (some (.ref f22))) (l22 : K.lookup f22 = some ⟨oc22, od22, .func (PySem.W.fnOf "are_ascending_arcs" "are_ascending_arcs" (defArgs s_are_ascending_arcs) (defBody s_are_ascending_arcs) (defScope s_are_ascending_arcs) .none kV22 dc22 pm22 an22 cd22 ct22), sl22⟩) (c22 : PySem.W.codeIn K cd22 "are_ascending_arcs" = true) (k22 : PySem.W.keepIn K (.ref f22) = true)
    {f23 : Addr} {od23 an23 : Option Addr} {sl23 : Array (Option Value)} {oc23 kV23 dc23 pm23 cd23 ct23 : Value}
    (a23 : PySem.W.nsIn K mainGlobals "shortened" = some (some (.ref f23))) (l23 : K.lookup f23 = some ⟨oc23, od23, .func (PySem.W.fnOf "shortened" "shortened" (defArgs s_shortened) (defBody s_shortened) (defScope s_shortened) .none kV23 dc23 pm23 an23 cd23 ct23), sl23⟩) (c23 : PySem.W.codeIn K cd23 "shortened" = true) (k23 : PySem.W.keepIn K (.ref f23) = true)
    {f24 : Addr} {od24 an24 : Option Addr} {sl24 : Array (Option Value)} {oc24 kV24 dc24 pm24 cd24 ct24 : Value}
    (a24 : PySem.W.nsIn K mainGlobals "lacking_pairs" = some (some (.ref f24))) (l24 : K.lookup f24 = some ⟨oc24, od24, .func (PySem.W.fnOf "lacking_pairs" "lacking_pairs" (defArgs s_lacking_pairs) (defBody s_lacking_pairs) (defScope s_lacking_pairs) .none kV24 dc24 pm24 an24 cd24 ct24), sl24⟩) (c24 : PySem.W.codeIn K cd24 "lacking_pairs" = true) (k24 : PySem.W.keepIn K (.ref f24) = true)
    {f25 : Addr} {od25 an25 : Option Addr} {sl25 : Array (Option Value)} {oc25 kV25 dc25 pm25 cd25 ct25 : Value}
    (a25 : PySem.W.nsIn K mainGlobals "is_rule" = some (some (.ref f25))) (l25 : K.lookup f25 = some ⟨oc25, od25, .func (PySem.W.fnOf "is_rule" "is_rule" (defArgs s_is_rule) (defBody s_is_rule) (defScope s_is_rule) .none kV25 dc25 pm25 an25 cd25 ct25), sl25⟩) (c25 : PySem.W.codeIn K cd25 "is_rule" = true) (k25 : PySem.W.keepIn K (.ref f25) = true)
    {f26 : Addr} {od26 an26 : Option Addr} {sl26 : Array (Option Value)} {oc26 kV26 dc26 pm26 cd26 ct26 : Value}
    (a26 : PySem.W.nsIn K mainGlobals "check_rule" = some (some (.ref f26))) (l26 : K.lookup f26 = some ⟨oc26, od26, .func (PySem.W.fnOf "check_rule" "check_rule" (defArgs s_check_rule) (defBody s_check_rule) (defScope s_check_rule) .none kV26 dc26 pm26 an26 cd26 ct26), sl26⟩) (c26 : PySem.W.codeIn K cd26 "check_rule" = true) (k26 : PySem.W.keepIn K (.ref f26) = true)
    {f27 : Addr} {od27 an27 : Option Addr} {sl27 : Array (Option Value)} {oc27 kV27 dc27 pm27 cd27 ct27 : Value}
    (a27 : PySem.W.nsIn K mainGlobals "rows_along" = some (some (.ref f27))) (l27 : K.lookup f27 = some ⟨oc27, od27, .func (PySem.W.fnOf "rows_along" "rows_along" (defArgs s_rows_along) (defBody s_rows_along) (defScope s_rows_along) .none kV27 dc27 pm27 an27 cd27 ct27), sl27⟩) (c27 : PySem.W.codeIn K cd27 "rows_along" = true) (k27 : PySem.W.keepIn K (.ref f27) = true)
    {f28 : Addr} {od28 an28 : Option Addr} {sl28 : Array (Option Value)} {oc28 kV28 dc28 pm28 cd28 ct28 : Value}
    (a28 : PySem.W.nsIn K mainGlobals "check_rule_and_rows" = some (some (.ref f28))) (l28 : K.lookup f28 = some ⟨oc28, od28, .func (PySem.W.fnOf "check_rule_and_rows" "check_rule_and_rows" (defArgs s_check_rule_and_rows) (defBody s_check_rule_and_rows) (defScope s_check_rule_and_rows) .none kV28 dc28 pm28 an28 cd28 ct28), sl28⟩) (c28 : PySem.W.codeIn K cd28 "check_rule_and_rows" = true) (k28 : PySem.W.keepIn K (.ref f28) = true)
    {f29 : Addr} {od29 an29 : Option Addr} {sl29 : Array (Option Value)} {oc29 kV29 dc29 pm29 cd29 ct29 : Value}
    (a29 : PySem.W.nsIn K mainGlobals "blind_falls" = some (some (.ref f29))) (l29 : K.lookup f29 = some ⟨oc29, od29, .func (PySem.W.fnOf "blind_falls" "blind_falls" (defArgs s_blind_falls) (defBody s_blind_falls) (defScope s_blind_falls) .none kV29 dc29 pm29 an29 cd29 ct29), sl29⟩) (c29 : PySem.W.codeIn K cd29 "blind_falls" = true) (k29 : PySem.W.keepIn K (.ref f29) = true)
    {f30 : Addr} {od30 an30 : Option Addr} {sl30 : Array (Option Value)} {oc30 kV30 dc30 pm30 cd30 ct30 : Value}
    (a30 : PySem.W.nsIn K mainGlobals "blind_rises" = some (some (.ref f30))) (l30 : K.lookup f30 = some ⟨oc30, od30, .func (PySem.W.fnOf "blind_rises" "blind_rises" (defArgs s_blind_rises) (defBody s_blind_rises) (defScope s_blind_rises) .none kV30 dc30 pm30 an30 cd30 ct30), sl30⟩) (c30 : PySem.W.codeIn K cd30 "blind_rises" = true) (k30 : PySem.W.keepIn K (.ref f30) = true)
    {f31 : Addr} {od31 an31 : Option Addr} {sl31 : Array (Option Value)} {oc31 kV31 dc31 pm31 cd31 ct31 : Value}
    (a31 : PySem.W.nsIn K mainGlobals "way_to_first" = some (some (.ref f31))) (l31 : K.lookup f31 = some ⟨oc31, od31, .func (PySem.W.fnOf "way_to_first" "way_to_first" (defArgs s_way_to_first) (defBody s_way_to_first) (defScope s_way_to_first) .none kV31 dc31 pm31 an31 cd31 ct31), sl31⟩) (c31 : PySem.W.codeIn K cd31 "way_to_first" = true) (k31 : PySem.W.keepIn K (.ref f31) = true)
    {f32 : Addr} {od32 an32 : Option Addr} {sl32 : Array (Option Value)} {oc32 kV32 dc32 pm32 cd32 ct32 : Value}
    (a32 : PySem.W.nsIn K mainGlobals "first_in_class" = some (some (.ref f32))) (l32 : K.lookup f32 = some ⟨oc32, od32, .func (PySem.W.fnOf "first_in_class" "first_in_class" (defArgs s_first_in_class) (defBody s_first_in_class) (defScope s_first_in_class) .none kV32 dc32 pm32 an32 cd32 ct32), sl32⟩) (c32 : PySem.W.codeIn K cd32 "first_in_class" = true) (k32 : PySem.W.keepIn K (.ref f32) = true)
    {f33 : Addr} {od33 an33 : Option Addr} {sl33 : Array (Option Value)} {oc33 kV33 dc33 pm33 cd33 ct33 : Value}
    (a33 : PySem.W.nsIn K mainGlobals "last_in_class" = some (some (.ref f33))) (l33 : K.lookup f33 = some ⟨oc33, od33, .func (PySem.W.fnOf "last_in_class" "last_in_class" (defArgs s_last_in_class) (defBody s_last_in_class) (defScope s_last_in_class) .none kV33 dc33 pm33 an33 cd33 ct33), sl33⟩) (c33 : PySem.W.codeIn K cd33 "last_in_class" = true) (k33 : PySem.W.keepIn K (.ref f33) = true)
    {f34 : Addr} {od34 an34 : Option Addr} {sl34 : Array (Option Value)} {oc34 kV34 dc34 pm34 cd34 ct34 : Value}
    (a34 : PySem.W.nsIn K mainGlobals "first_row" = some (some (.ref f34))) (l34 : K.lookup f34 = some ⟨oc34, od34, .func (PySem.W.fnOf "first_row" "first_row" (defArgs s_first_row) (defBody s_first_row) (defScope s_first_row) .none kV34 dc34 pm34 an34 cd34 ct34), sl34⟩) (c34 : PySem.W.codeIn K cd34 "first_row" = true) (k34 : PySem.W.keepIn K (.ref f34) = true)
    {f35 : Addr} {od35 an35 : Option Addr} {sl35 : Array (Option Value)} {oc35 kV35 dc35 pm35 cd35 ct35 : Value}
    (a35 : PySem.W.nsIn K mainGlobals "last_row" = some (some (.ref f35))) (l35 : K.lookup f35 = some ⟨oc35, od35, .func (PySem.W.fnOf "last_row" "last_row" (defArgs s_last_row) (defBody s_last_row) (defScope s_last_row) .none kV35 dc35 pm35 an35 cd35 ct35), sl35⟩) (c35 : PySem.W.codeIn K cd35 "last_row" = true) (k35 : PySem.W.keepIn K (.ref f35) = true)
    {f36 : Addr} {od36 an36 : Option Addr} {sl36 : Array (Option Value)} {oc36 kV36 dc36 pm36 cd36 ct36 : Value}
    (a36 : PySem.W.nsIn K mainGlobals "are_one" = some (some (.ref f36))) (l36 : K.lookup f36 = some ⟨oc36, od36, .func (PySem.W.fnOf "are_one" "are_one" (defArgs s_are_one) (defBody s_are_one) (defScope s_are_one) .none kV36 dc36 pm36 an36 cd36 ct36), sl36⟩) (c36 : PySem.W.codeIn K cd36 "are_one" = true) (k36 : PySem.W.keepIn K (.ref f36) = true)
    {f37 : Addr} {od37 an37 : Option Addr} {sl37 : Array (Option Value)} {oc37 kV37 dc37 pm37 cd37 ct37 : Value}
    (a37 : PySem.W.nsIn K mainGlobals "class_of" = some (some (.ref f37))) (l37 : K.lookup f37 = some ⟨oc37, od37, .func (PySem.W.fnOf "class_of" "class_of" (defArgs s_class_of) (defBody s_class_of) (defScope s_class_of) .none kV37 dc37 pm37 an37 cd37 ct37), sl37⟩) (c37 : PySem.W.codeIn K cd37 "class_of" = true) (k37 : PySem.W.keepIn K (.ref f37) = true)
    {f38 : Addr} {od38 an38 : Option Addr} {sl38 : Array (Option Value)} {oc38 kV38 dc38 pm38 cd38 ct38 : Value}
    (a38 : PySem.W.nsIn K mainGlobals "_law_deck" = some (some (.ref f38))) (l38 : K.lookup f38 = some ⟨oc38, od38, .func (PySem.W.fnOf "_law_deck" "_law_deck" (defArgs s__law_deck) (defBody s__law_deck) (defScope s__law_deck) .none kV38 dc38 pm38 an38 cd38 ct38), sl38⟩) (c38 : PySem.W.codeIn K cd38 "_law_deck" = true) (k38 : PySem.W.keepIn K (.ref f38) = true)
    {f39 : Addr} {od39 an39 : Option Addr} {sl39 : Array (Option Value)} {oc39 kV39 dc39 pm39 cd39 ct39 : Value}
    (a39 : PySem.W.nsIn K mainGlobals "_law_draw" = some (some (.ref f39))) (l39 : K.lookup f39 = some ⟨oc39, od39, .func (PySem.W.fnOf "_law_draw" "_law_draw" (defArgs s__law_draw) (defBody s__law_draw) (defScope s__law_draw) .none kV39 dc39 pm39 an39 cd39 ct39), sl39⟩) (c39 : PySem.W.codeIn K cd39 "_law_draw" = true) (k39 : PySem.W.keepIn K (.ref f39) = true)
    {f40 : Addr} {od40 an40 : Option Addr} {sl40 : Array (Option Value)} {oc40 kV40 dc40 pm40 cd40 ct40 : Value}
    (a40 : PySem.W.nsIn K mainGlobals "_law_pick" = some (some (.ref f40))) (l40 : K.lookup f40 = some ⟨oc40, od40, .func (PySem.W.fnOf "_law_pick" "_law_pick" (defArgs s__law_pick) (defBody s__law_pick) (defScope s__law_pick) .none kV40 dc40 pm40 an40 cd40 ct40), sl40⟩) (c40 : PySem.W.codeIn K cd40 "_law_pick" = true) (k40 : PySem.W.keepIn K (.ref f40) = true)
    {f41 : Addr} {od41 an41 : Option Addr} {sl41 : Array (Option Value)} {oc41 kV41 dc41 pm41 cd41 ct41 : Value}
    (a41 : PySem.W.nsIn K mainGlobals "_law_shuffled" = some (some (.ref f41))) (l41 : K.lookup f41 = some ⟨oc41, od41, .func (PySem.W.fnOf "_law_shuffled" "_law_shuffled" (defArgs s__law_shuffled) (defBody s__law_shuffled) (defScope s__law_shuffled) .none kV41 dc41 pm41 an41 cd41 ct41), sl41⟩) (c41 : PySem.W.codeIn K cd41 "_law_shuffled" = true) (k41 : PySem.W.keepIn K (.ref f41) = true)
    {f42 : Addr} {od42 an42 : Option Addr} {sl42 : Array (Option Value)} {oc42 kV42 dc42 pm42 cd42 ct42 : Value}
    (a42 : PySem.W.nsIn K mainGlobals "_law_row" = some (some (.ref f42))) (l42 : K.lookup f42 = some ⟨oc42, od42, .func (PySem.W.fnOf "_law_row" "_law_row" (defArgs s__law_row) (defBody s__law_row) (defScope s__law_row) .none kV42 dc42 pm42 an42 cd42 ct42), sl42⟩) (c42 : PySem.W.codeIn K cd42 "_law_row" = true) (k42 : PySem.W.keepIn K (.ref f42) = true)
    {f43 : Addr} {od43 an43 : Option Addr} {sl43 : Array (Option Value)} {oc43 kV43 dc43 pm43 cd43 ct43 : Value}
    (a43 : PySem.W.nsIn K mainGlobals "_law_arc" = some (some (.ref f43))) (l43 : K.lookup f43 = some ⟨oc43, od43, .func (PySem.W.fnOf "_law_arc" "_law_arc" (defArgs s__law_arc) (defBody s__law_arc) (defScope s__law_arc) .none kV43 dc43 pm43 an43 cd43 ct43), sl43⟩) (c43 : PySem.W.codeIn K cd43 "_law_arc" = true) (k43 : PySem.W.keepIn K (.ref f43) = true)
    {f44 : Addr} {od44 an44 : Option Addr} {sl44 : Array (Option Value)} {oc44 kV44 dc44 pm44 cd44 ct44 : Value}
    (a44 : PySem.W.nsIn K mainGlobals "_law_arcs" = some (some (.ref f44))) (l44 : K.lookup f44 = some ⟨oc44, od44, .func (PySem.W.fnOf "_law_arcs" "_law_arcs" (defArgs s__law_arcs) (defBody s__law_arcs) (defScope s__law_arcs) .none kV44 dc44 pm44 an44 cd44 ct44), sl44⟩) (c44 : PySem.W.codeIn K cd44 "_law_arcs" = true) (k44 : PySem.W.keepIn K (.ref f44) = true)
    {f45 : Addr} {od45 an45 : Option Addr} {sl45 : Array (Option Value)} {oc45 kV45 dc45 pm45 cd45 ct45 : Value}
    (a45 : PySem.W.nsIn K mainGlobals "_law_lies" = some (some (.ref f45))) (l45 : K.lookup f45 = some ⟨oc45, od45, .func (PySem.W.fnOf "_law_lies" "_law_lies" (defArgs s__law_lies) (defBody s__law_lies) (defScope s__law_lies) .none kV45 dc45 pm45 an45 cd45 ct45), sl45⟩) (c45 : PySem.W.codeIn K cd45 "_law_lies" = true) (k45 : PySem.W.keepIn K (.ref f45) = true)
    {f46 : Addr} {od46 an46 : Option Addr} {sl46 : Array (Option Value)} {oc46 kV46 dc46 pm46 cd46 ct46 : Value}
    (a46 : PySem.W.nsIn K mainGlobals "_law_within" = some (some (.ref f46))) (l46 : K.lookup f46 = some ⟨oc46, od46, .func (PySem.W.fnOf "_law_within" "_law_within" (defArgs s__law_within) (defBody s__law_within) (defScope s__law_within) .none kV46 dc46 pm46 an46 cd46 ct46), sl46⟩) (c46 : PySem.W.codeIn K cd46 "_law_within" = true) (k46 : PySem.W.keepIn K (.ref f46) = true)
    {f47 : Addr} {od47 an47 : Option Addr} {sl47 : Array (Option Value)} {oc47 kV47 dc47 pm47 cd47 ct47 : Value}
    (a47 : PySem.W.nsIn K mainGlobals "_law_widest" = some (some (.ref f47))) (l47 : K.lookup f47 = some ⟨oc47, od47, .func (PySem.W.fnOf "_law_widest" "_law_widest" (defArgs s__law_widest) (defBody s__law_widest) (defScope s__law_widest) .none kV47 dc47 pm47 an47 cd47 ct47), sl47⟩) (c47 : PySem.W.codeIn K cd47 "_law_widest" = true) (k47 : PySem.W.keepIn K (.ref f47) = true)
    {f48 : Addr} {od48 an48 : Option Addr} {sl48 : Array (Option Value)} {oc48 kV48 dc48 pm48 cd48 ct48 : Value}
    (a48 : PySem.W.nsIn K mainGlobals "_law_closed" = some (some (.ref f48))) (l48 : K.lookup f48 = some ⟨oc48, od48, .func (PySem.W.fnOf "_law_closed" "_law_closed" (defArgs s__law_closed) (defBody s__law_closed) (defScope s__law_closed) .none kV48 dc48 pm48 an48 cd48 ct48), sl48⟩) (c48 : PySem.W.codeIn K cd48 "_law_closed" = true) (k48 : PySem.W.keepIn K (.ref f48) = true)
    {f49 : Addr} {od49 an49 : Option Addr} {sl49 : Array (Option Value)} {oc49 kV49 dc49 pm49 cd49 ct49 : Value}
    (a49 : PySem.W.nsIn K mainGlobals "_law_marked" = some (some (.ref f49))) (l49 : K.lookup f49 = some ⟨oc49, od49, .func (PySem.W.fnOf "_law_marked" "_law_marked" (defArgs s__law_marked) (defBody s__law_marked) (defScope s__law_marked) .none kV49 dc49 pm49 an49 cd49 ct49), sl49⟩) (c49 : PySem.W.codeIn K cd49 "_law_marked" = true) (k49 : PySem.W.keepIn K (.ref f49) = true)
    {f50 : Addr} {od50 an50 : Option Addr} {sl50 : Array (Option Value)} {oc50 kV50 dc50 pm50 cd50 ct50 : Value}
    (a50 : PySem.W.nsIn K mainGlobals "_law_rule" = some (some (.ref f50))) (l50 : K.lookup f50 = some ⟨oc50, od50, .func (PySem.W.fnOf "_law_rule" "_law_rule" (defArgs s__law_rule) (defBody s__law_rule) (defScope s__law_rule) .none kV50 dc50 pm50 an50 cd50 ct50), sl50⟩) (c50 : PySem.W.codeIn K cd50 "_law_rule" = true) (k50 : PySem.W.keepIn K (.ref f50) = true)
    {f51 : Addr} {od51 an51 : Option Addr} {sl51 : Array (Option Value)} {oc51 kV51 dc51 pm51 cd51 ct51 : Value}
    (a51 : PySem.W.nsIn K mainGlobals "_law_arc_at" = some (some (.ref f51))) (l51 : K.lookup f51 = some ⟨oc51, od51, .func (PySem.W.fnOf "_law_arc_at" "_law_arc_at" (defArgs s__law_arc_at) (defBody s__law_arc_at) (defScope s__law_arc_at) .none kV51 dc51 pm51 an51 cd51 ct51), sl51⟩) (c51 : PySem.W.codeIn K cd51 "_law_arc_at" = true) (k51 : PySem.W.keepIn K (.ref f51) = true)
    {f52 : Addr} {od52 an52 : Option Addr} {sl52 : Array (Option Value)} {oc52 kV52 dc52 pm52 cd52 ct52 : Value}
    (a52 : PySem.W.nsIn K mainGlobals "_law_exchanged" = some (some (.ref f52))) (l52 : K.lookup f52 = some ⟨oc52, od52, .func (PySem.W.fnOf "_law_exchanged" "_law_exchanged" (defArgs s__law_exchanged) (defBody s__law_exchanged) (defScope s__law_exchanged) .none kV52 dc52 pm52 an52 cd52 ct52), sl52⟩) (c52 : PySem.W.codeIn K cd52 "_law_exchanged" = true) (k52 : PySem.W.keepIn K (.ref f52) = true)
    {f53 : Addr} {od53 an53 : Option Addr} {sl53 : Array (Option Value)} {oc53 kV53 dc53 pm53 cd53 ct53 : Value}
    (a53 : PySem.W.nsIn K mainGlobals "_law_known" = some (some (.ref f53))) (l53 : K.lookup f53 = some ⟨oc53, od53, .func (PySem.W.fnOf "_law_known" "_law_known" (defArgs s__law_known) (defBody s__law_known) (defScope s__law_known) .none kV53 dc53 pm53 an53 cd53 ct53), sl53⟩) (c53 : PySem.W.codeIn K cd53 "_law_known" = true) (k53 : PySem.W.keepIn K (.ref f53) = true)
    {f54 : Addr} {od54 an54 : Option Addr} {sl54 : Array (Option Value)} {oc54 kV54 dc54 pm54 cd54 ct54 : Value}
    (a54 : PySem.W.nsIn K mainGlobals "_law_blind" = some (some (.ref f54))) (l54 : K.lookup f54 = some ⟨oc54, od54, .func (PySem.W.fnOf "_law_blind" "_law_blind" (defArgs s__law_blind) (defBody s__law_blind) (defScope s__law_blind) .none kV54 dc54 pm54 an54 cd54 ct54), sl54⟩) (c54 : PySem.W.codeIn K cd54 "_law_blind" = true) (k54 : PySem.W.keepIn K (.ref f54) = true)
    {f55 : Addr} {od55 an55 : Option Addr} {sl55 : Array (Option Value)} {oc55 kV55 dc55 pm55 cd55 ct55 : Value}
    (a55 : PySem.W.nsIn K mainGlobals "_law_class" = some (some (.ref f55))) (l55 : K.lookup f55 = some ⟨oc55, od55, .func (PySem.W.fnOf "_law_class" "_law_class" (defArgs s__law_class) (defBody s__law_class) (defScope s__law_class) .none kV55 dc55 pm55 an55 cd55 ct55), sl55⟩) (c55 : PySem.W.codeIn K cd55 "_law_class" = true) (k55 : PySem.W.keepIn K (.ref f55) = true)
    {f56 : Addr} {od56 an56 : Option Addr} {sl56 : Array (Option Value)} {oc56 kV56 dc56 pm56 cd56 ct56 : Value}
    (a56 : PySem.W.nsIn K mainGlobals "_law_is_class_right" = some (some (.ref f56))) (l56 : K.lookup f56 = some ⟨oc56, od56, .func (PySem.W.fnOf "_law_is_class_right" "_law_is_class_right" (defArgs s__law_is_class_right) (defBody s__law_is_class_right) (defScope s__law_is_class_right) .none kV56 dc56 pm56 an56 cd56 ct56), sl56⟩) (c56 : PySem.W.codeIn K cd56 "_law_is_class_right" = true) (k56 : PySem.W.keepIn K (.ref f56) = true)
    {f57 : Addr} {od57 an57 : Option Addr} {sl57 : Array (Option Value)} {oc57 kV57 dc57 pm57 cd57 ct57 : Value}
    (a57 : PySem.W.nsIn K mainGlobals "law" = some (some (.ref f57))) (l57 : K.lookup f57 = some ⟨oc57, od57, .func (PySem.W.fnOf "law" "law" (defArgs s_law) (defBody s_law) (defScope s_law) .none kV57 dc57 pm57 an57 cd57 ct57), sl57⟩) (c57 : PySem.W.codeIn K cd57 "law" = true) (k57 : PySem.W.keepIn K (.ref f57) = true)
    (z0 : PySem.W.nsIn K mainGlobals "all" = some none)
    (z1 : PySem.W.nsIn K mainGlobals "bool" = some none)
    (z2 : PySem.W.nsIn K mainGlobals "enumerate" = some none)
    (z3 : PySem.W.nsIn K mainGlobals "int" = some none)
    (z4 : PySem.W.nsIn K mainGlobals "isinstance" = some none)
    (z5 : PySem.W.nsIn K mainGlobals "len" = some none)
    (z6 : PySem.W.nsIn K mainGlobals "list" = some none)
    (z7 : PySem.W.nsIn K mainGlobals "max" = some none)
    (z8 : PySem.W.nsIn K mainGlobals "min" = some none)
    (z9 : PySem.W.nsIn K mainGlobals "range" = some none)
    (z10 : PySem.W.nsIn K mainGlobals "repr" = some none)
    (z11 : PySem.W.nsIn K mainGlobals "set" = some none)
    (z12 : PySem.W.nsIn K mainGlobals "sorted" = some none)
    (z13 : PySem.W.nsIn K mainGlobals "tuple" = some none)
    (y : PySem.W.nsIn K mainGlobals "permutations" = some (some (.type "itertools.permutations")))
    : ∃ fd : FuncData, (∀ (s : Shared) (v : Value), BindsTo s fd ⟨[v], []⟩ [("script", v)]) ∧ ∀ base : Heap, K.In base → base.Ns mainGlobals mg → GOk l.prog w K mg base 13 fa fd ["script"] (SpC K (C_law K)) := by
  have e := hfa.symm.trans (PySem.W.mg_of X G a57)
  cases e
  have F0 := fun_mk (st := s_is_number) l0 c0 k0
  have F1 := fun_mk (st := s_is_number_from) l1 c1 k1
  have F2 := fun_mk (st := s_are_numbers) l2 c2 k2
  have F3 := fun_mk (st := s_are_ascending_numbers) l3 c3 k3
  have F4 := fun_mk (st := s_is_row) l4 c4 k4
  have F5 := fun_mk (st := s_check_row) l5 c5 k5
  have F6 := fun_mk (st := s_check_place) l6 c6 k6
  have F7 := fun_mk (st := s_turned_pairs) l7 c7 k7
  have F8 := fun_mk (st := s_mirror) l8 c8 k8
  have F9 := fun_mk (st := s_exchanged) l9 c9 k9
  have F10 := fun_mk (st := s_row_turning) l10 c10 k10
  have F11 := fun_mk (st := s_pairs_only_in) l11 c11 k11
  have F12 := fun_mk (st := s_pairs_not_below) l12 c12 k12
  have F13 := fun_mk (st := s_is_below) l13 c13 k13
  have F14 := fun_mk (st := s_chained) l14 c14 k14
  have F15 := fun_mk (st := s_least_above) l15 c15 k15
  have F16 := fun_mk (st := s_greatest_below) l16 c16 k16
  have F17 := fun_mk (st := s_all_rows) l17 c17 k17
  have F18 := fun_mk (st := s_is_arc) l18 c18 k18
  have F19 := fun_mk (st := s_arc_at) l19 c19 k19
  have F20 := fun_mk (st := s_narrowed) l20 c20 k20
  have F21 := fun_mk (st := s_are_arcs) l21 c21 k21
  have F22 := fun_mk (st := s_are_ascending_arcs) l22 c22 k22
  have F23 := fun_mk (st := s_shortened) l23 c23 k23
  have F24 := fun_mk (st := s_lacking_pairs) l24 c24 k24
  have F25 := fun_mk (st := s_is_rule) l25 c25 k25
  have F26 := fun_mk (st := s_check_rule) l26 c26 k26
  have F27 := fun_mk (st := s_rows_along) l27 c27 k27
  have F28 := fun_mk (st := s_check_rule_and_rows) l28 c28 k28
  have F29 := fun_mk (st := s_blind_falls) l29 c29 k29
  have F30 := fun_mk (st := s_blind_rises) l30 c30 k30
  have F31 := fun_mk (st := s_way_to_first) l31 c31 k31
  have F32 := fun_mk (st := s_first_in_class) l32 c32 k32
  have F33 := fun_mk (st := s_last_in_class) l33 c33 k33
  have F34 := fun_mk (st := s_first_row) l34 c34 k34
  have F35 := fun_mk (st := s_last_row) l35 c35 k35
  have F36 := fun_mk (st := s_are_one) l36 c36 k36
  have F37 := fun_mk (st := s_class_of) l37 c37 k37
  have F38 := fun_mk (st := s__law_deck) l38 c38 k38
  have F39 := fun_mk (st := s__law_draw) l39 c39 k39
  have F40 := fun_mk (st := s__law_pick) l40 c40 k40
  have F41 := fun_mk (st := s__law_shuffled) l41 c41 k41
  have F42 := fun_mk (st := s__law_row) l42 c42 k42
  have F43 := fun_mk (st := s__law_arc) l43 c43 k43
  have F44 := fun_mk (st := s__law_arcs) l44 c44 k44
  have F45 := fun_mk (st := s__law_lies) l45 c45 k45
  have F46 := fun_mk (st := s__law_within) l46 c46 k46
  have F47 := fun_mk (st := s__law_widest) l47 c47 k47
  have F48 := fun_mk (st := s__law_closed) l48 c48 k48
  have F49 := fun_mk (st := s__law_marked) l49 c49 k49
  have F50 := fun_mk (st := s__law_rule) l50 c50 k50
  have F51 := fun_mk (st := s__law_arc_at) l51 c51 k51
  have F52 := fun_mk (st := s__law_exchanged) l52 c52 k52
  have F53 := fun_mk (st := s__law_known) l53 c53 k53
  have F54 := fun_mk (st := s__law_blind) l54 c54 k54
  have F55 := fun_mk (st := s__law_class) l55 c55 k55
  have F56 := fun_mk (st := s__law_is_class_right) l56 c56 k56
  have F57 := fun_mk (st := s_law) l57 c57 k57
  have kb_class_of__row_rule_n : ∀ (kV doc pm : Value) (an : Option Addr) (cdv ct : Value) (us ws : List Value), (perm 3 [2, 1, 0] us ws).length = (["n", "rule", "row"] : List Str).length → bindArgs (PySem.W.fnOf "class_of" "class_of" (defArgs s_class_of) (defBody s_class_of) (defScope s_class_of) .none kV doc pm an cdv ct) ⟨us, (["row", "rule", "n"] : List Str).zip ws⟩ = pure ((["n", "rule", "row"] : List Str).zip (perm 3 [2, 1, 0] us ws)) := by
    intro kV doc pm an cdv ct us ws hl
    obtain ⟨rfl, hw⟩ := perm_len (by decide) hl
    match ws, hw with
    | [_, _, _], _ => rfl
  let T : Tx K mg := {
    f_is_number := f0, d_is_number := _, F_is_number := F0, b_is_number := F0.binds (fun _ _ _ _ _ _ us hl => match us, hl with | [_], _ => rfl), g_is_number := PySem.W.mg_of X G a0,
    f_is_number_from := f1, d_is_number_from := _, F_is_number_from := F1, b_is_number_from := F1.binds (fun _ _ _ _ _ _ us hl => match us, hl with | [_, _, _], _ => rfl), g_is_number_from := PySem.W.mg_of X G a1,
    f_are_numbers := f2, d_are_numbers := _, F_are_numbers := F2, b_are_numbers := F2.binds (fun _ _ _ _ _ _ us hl => match us, hl with | [_], _ => rfl), g_are_numbers := PySem.W.mg_of X G a2,
    f_are_ascending_numbers := f3, d_are_ascending_numbers := _, F_are_ascending_numbers := F3, b_are_ascending_numbers := F3.binds (fun _ _ _ _ _ _ us hl => match us, hl with | [_], _ => rfl), g_are_ascending_numbers := PySem.W.mg_of X G a3,
    f_is_row := f4, d_is_row := _, F_is_row := F4, b_is_row := F4.binds (fun _ _ _ _ _ _ us hl => match us, hl with | [_, _], _ => rfl), g_is_row := PySem.W.mg_of X G a4,
    f_check_row := f5, d_check_row := _, F_check_row := F5, b_check_row := F5.binds (fun _ _ _ _ _ _ us hl => match us, hl with | [_, _], _ => rfl), g_check_row := PySem.W.mg_of X G a5,
    f_check_place := f6, d_check_place := _, F_check_place := F6, b_check_place := F6.binds (fun _ _ _ _ _ _ us hl => match us, hl with | [_, _], _ => rfl), g_check_place := PySem.W.mg_of X G a6,
    f_turned_pairs := f7, d_turned_pairs := _, F_turned_pairs := F7, b_turned_pairs := F7.binds (fun _ _ _ _ _ _ us hl => match us, hl with | [_, _], _ => rfl), g_turned_pairs := PySem.W.mg_of X G a7,
    f_mirror := f8, d_mirror := _, F_mirror := F8, b_mirror := F8.binds (fun _ _ _ _ _ _ us hl => match us, hl with | [_, _], _ => rfl), g_mirror := PySem.W.mg_of X G a8,
    f_exchanged := f9, d_exchanged := _, F_exchanged := F9, b_exchanged := F9.binds (fun _ _ _ _ _ _ us hl => match us, hl with | [_, _, _], _ => rfl), g_exchanged := PySem.W.mg_of X G a9,
    f_row_turning := f10, d_row_turning := _, F_row_turning := F10, b_row_turning := F10.binds (fun _ _ _ _ _ _ us hl => match us, hl with | [_, _], _ => rfl), g_row_turning := PySem.W.mg_of X G a10,
    f_pairs_only_in := f11, d_pairs_only_in := _, F_pairs_only_in := F11, b_pairs_only_in := F11.binds (fun _ _ _ _ _ _ us hl => match us, hl with | [_, _], _ => rfl), g_pairs_only_in := PySem.W.mg_of X G a11,
    f_pairs_not_below := f12, d_pairs_not_below := _, F_pairs_not_below := F12, b_pairs_not_below := F12.binds (fun _ _ _ _ _ _ us hl => match us, hl with | [_, _, _], _ => rfl), g_pairs_not_below := PySem.W.mg_of X G a12,
    f_is_below := f13, d_is_below := _, F_is_below := F13, b_is_below := F13.binds (fun _ _ _ _ _ _ us hl => match us, hl with | [_, _, _], _ => rfl), g_is_below := PySem.W.mg_of X G a13,
    f_chained := f14, d_chained := _, F_chained := F14, b_chained := F14.binds (fun _ _ _ _ _ _ us hl => match us, hl with | [_, _], _ => rfl), g_chained := PySem.W.mg_of X G a14,
    f_least_above := f15, d_least_above := _, F_least_above := F15, b_least_above := F15.binds (fun _ _ _ _ _ _ us hl => match us, hl with | [_, _, _], _ => rfl), g_least_above := PySem.W.mg_of X G a15,
    f_greatest_below := f16, d_greatest_below := _, F_greatest_below := F16, b_greatest_below := F16.binds (fun _ _ _ _ _ _ us hl => match us, hl with | [_, _, _], _ => rfl), g_greatest_below := PySem.W.mg_of X G a16,
    f_all_rows := f17, d_all_rows := _, F_all_rows := F17, b_all_rows := F17.binds (fun _ _ _ _ _ _ us hl => match us, hl with | [_], _ => rfl), g_all_rows := PySem.W.mg_of X G a17,
    f_is_arc := f18, d_is_arc := _, F_is_arc := F18, b_is_arc := F18.binds (fun _ _ _ _ _ _ us hl => match us, hl with | [_, _], _ => rfl), g_is_arc := PySem.W.mg_of X G a18,
    f_arc_at := f19, d_arc_at := _, F_arc_at := F19, b_arc_at := F19.binds (fun _ _ _ _ _ _ us hl => match us, hl with | [_, _, _], _ => rfl), g_arc_at := PySem.W.mg_of X G a19,
    f_narrowed := f20, d_narrowed := _, F_narrowed := F20, b_narrowed := F20.binds (fun _ _ _ _ _ _ us hl => match us, hl with | [_, _, _], _ => rfl), g_narrowed := PySem.W.mg_of X G a20,
    f_are_arcs := f21, d_are_arcs := _, F_are_arcs := F21, b_are_arcs := F21.binds (fun _ _ _ _ _ _ us hl => match us, hl with | [_, _], _ => rfl), g_are_arcs := PySem.W.mg_of X G a21,
    f_are_ascending_arcs := f22, d_are_ascending_arcs := _, F_are_ascending_arcs := F22, b_are_ascending_arcs := F22.binds (fun _ _ _ _ _ _ us hl => match us, hl with | [_, _], _ => rfl), g_are_ascending_arcs := PySem.W.mg_of X G a22,
    f_shortened := f23, d_shortened := _, F_shortened := F23, b_shortened := F23.binds (fun _ _ _ _ _ _ us hl => match us, hl with | [_], _ => rfl), g_shortened := PySem.W.mg_of X G a23,
    f_lacking_pairs := f24, d_lacking_pairs := _, F_lacking_pairs := F24, b_lacking_pairs := F24.binds (fun _ _ _ _ _ _ us hl => match us, hl with | [_], _ => rfl), g_lacking_pairs := PySem.W.mg_of X G a24,
    f_is_rule := f25, d_is_rule := _, F_is_rule := F25, b_is_rule := F25.binds (fun _ _ _ _ _ _ us hl => match us, hl with | [_, _], _ => rfl), g_is_rule := PySem.W.mg_of X G a25,
    f_check_rule := f26, d_check_rule := _, F_check_rule := F26, b_check_rule := F26.binds (fun _ _ _ _ _ _ us hl => match us, hl with | [_, _], _ => rfl), g_check_rule := PySem.W.mg_of X G a26,
    f_rows_along := f27, d_rows_along := _, F_rows_along := F27, b_rows_along := F27.binds (fun _ _ _ _ _ _ us hl => match us, hl with | [_, _, _], _ => rfl), g_rows_along := PySem.W.mg_of X G a27,
    f_check_rule_and_rows := f28, d_check_rule_and_rows := _, F_check_rule_and_rows := F28, b_check_rule_and_rows := F28.binds (fun _ _ _ _ _ _ us hl => match us, hl with | [_, _, _], _ => rfl), g_check_rule_and_rows := PySem.W.mg_of X G a28,
    f_blind_falls := f29, d_blind_falls := _, F_blind_falls := F29, b_blind_falls := F29.binds (fun _ _ _ _ _ _ us hl => match us, hl with | [_, _, _], _ => rfl), g_blind_falls := PySem.W.mg_of X G a29,
    f_blind_rises := f30, d_blind_rises := _, F_blind_rises := F30, b_blind_rises := F30.binds (fun _ _ _ _ _ _ us hl => match us, hl with | [_, _, _], _ => rfl), g_blind_rises := PySem.W.mg_of X G a30,
    f_way_to_first := f31, d_way_to_first := _, F_way_to_first := F31, b_way_to_first := F31.binds (fun _ _ _ _ _ _ us hl => match us, hl with | [_, _, _], _ => rfl), g_way_to_first := PySem.W.mg_of X G a31,
    f_first_in_class := f32, d_first_in_class := _, F_first_in_class := F32, b_first_in_class := F32.binds (fun _ _ _ _ _ _ us hl => match us, hl with | [_, _, _], _ => rfl), g_first_in_class := PySem.W.mg_of X G a32,
    f_last_in_class := f33, d_last_in_class := _, F_last_in_class := F33, b_last_in_class := F33.binds (fun _ _ _ _ _ _ us hl => match us, hl with | [_, _, _], _ => rfl), g_last_in_class := PySem.W.mg_of X G a33,
    f_first_row := f34, d_first_row := _, F_first_row := F34, b_first_row := F34.binds (fun _ _ _ _ _ _ us hl => match us, hl with | [_, _, _], _ => rfl), g_first_row := PySem.W.mg_of X G a34,
    f_last_row := f35, d_last_row := _, F_last_row := F35, b_last_row := F35.binds (fun _ _ _ _ _ _ us hl => match us, hl with | [_, _, _], _ => rfl), g_last_row := PySem.W.mg_of X G a35,
    f_are_one := f36, d_are_one := _, F_are_one := F36, b_are_one := F36.binds (fun _ _ _ _ _ _ us hl => match us, hl with | [_, _, _, _], _ => rfl), g_are_one := PySem.W.mg_of X G a36,
    f_class_of := f37, d_class_of := _, F_class_of := F37, b_class_of := F37.binds (fun _ _ _ _ _ _ us hl => match us, hl with | [_, _, _], _ => rfl), g_class_of := PySem.W.mg_of X G a37,
    f__law_deck := f38, d__law_deck := _, F__law_deck := F38, b__law_deck := F38.binds (fun _ _ _ _ _ _ us hl => match us, hl with | [_], _ => rfl), g__law_deck := PySem.W.mg_of X G a38,
    f__law_draw := f39, d__law_draw := _, F__law_draw := F39, b__law_draw := F39.binds (fun _ _ _ _ _ _ us hl => match us, hl with | [_, _], _ => rfl), g__law_draw := PySem.W.mg_of X G a39,
    f__law_pick := f40, d__law_pick := _, F__law_pick := F40, b__law_pick := F40.binds (fun _ _ _ _ _ _ us hl => match us, hl with | [_, _], _ => rfl), g__law_pick := PySem.W.mg_of X G a40,
    f__law_shuffled := f41, d__law_shuffled := _, F__law_shuffled := F41, b__law_shuffled := F41.binds (fun _ _ _ _ _ _ us hl => match us, hl with | [_, _], _ => rfl), g__law_shuffled := PySem.W.mg_of X G a41,
    f__law_row := f42, d__law_row := _, F__law_row := F42, b__law_row := F42.binds (fun _ _ _ _ _ _ us hl => match us, hl with | [_, _], _ => rfl), g__law_row := PySem.W.mg_of X G a42,
    f__law_arc := f43, d__law_arc := _, F__law_arc := F43, b__law_arc := F43.binds (fun _ _ _ _ _ _ us hl => match us, hl with | [_, _], _ => rfl), g__law_arc := PySem.W.mg_of X G a43,
    f__law_arcs := f44, d__law_arcs := _, F__law_arcs := F44, b__law_arcs := F44.binds (fun _ _ _ _ _ _ us hl => match us, hl with | [_], _ => rfl), g__law_arcs := PySem.W.mg_of X G a44,
    f__law_lies := f45, d__law_lies := _, F__law_lies := F45, b__law_lies := F45.binds (fun _ _ _ _ _ _ us hl => match us, hl with | [_, _], _ => rfl), g__law_lies := PySem.W.mg_of X G a45,
    f__law_within := f46, d__law_within := _, F__law_within := F46, b__law_within := F46.binds (fun _ _ _ _ _ _ us hl => match us, hl with | [_], _ => rfl), g__law_within := PySem.W.mg_of X G a46,
    f__law_widest := f47, d__law_widest := _, F__law_widest := F47, b__law_widest := F47.binds (fun _ _ _ _ _ _ us hl => match us, hl with | [_, _], _ => rfl), g__law_widest := PySem.W.mg_of X G a47,
    f__law_closed := f48, d__law_closed := _, F__law_closed := F48, b__law_closed := F48.binds (fun _ _ _ _ _ _ us hl => match us, hl with | [_], _ => rfl), g__law_closed := PySem.W.mg_of X G a48,
    f__law_marked := f49, d__law_marked := _, F__law_marked := F49, b__law_marked := F49.binds (fun _ _ _ _ _ _ us hl => match us, hl with | [_, _], _ => rfl), g__law_marked := PySem.W.mg_of X G a49,
    f__law_rule := f50, d__law_rule := _, F__law_rule := F50, b__law_rule := F50.binds (fun _ _ _ _ _ _ us hl => match us, hl with | [_, _], _ => rfl), g__law_rule := PySem.W.mg_of X G a50,
    f__law_arc_at := f51, d__law_arc_at := _, F__law_arc_at := F51, b__law_arc_at := F51.binds (fun _ _ _ _ _ _ us hl => match us, hl with | [_, _], _ => rfl), g__law_arc_at := PySem.W.mg_of X G a51,
    f__law_exchanged := f52, d__law_exchanged := _, F__law_exchanged := F52, b__law_exchanged := F52.binds (fun _ _ _ _ _ _ us hl => match us, hl with | [_, _], _ => rfl), g__law_exchanged := PySem.W.mg_of X G a52,
    f__law_known := f53, d__law_known := _, F__law_known := F53, b__law_known := F53.binds (fun _ _ _ _ _ _ us hl => match us, hl with | [_], _ => rfl), g__law_known := PySem.W.mg_of X G a53,
    f__law_blind := f54, d__law_blind := _, F__law_blind := F54, b__law_blind := F54.binds (fun _ _ _ _ _ _ us hl => match us, hl with | [_, _], _ => rfl), g__law_blind := PySem.W.mg_of X G a54,
    f__law_class := f55, d__law_class := _, F__law_class := F55, b__law_class := F55.binds (fun _ _ _ _ _ _ us hl => match us, hl with | [_, _], _ => rfl), g__law_class := PySem.W.mg_of X G a55,
    f__law_is_class_right := f56, d__law_is_class_right := _, F__law_is_class_right := F56, b__law_is_class_right := F56.binds (fun _ _ _ _ _ _ us hl => match us, hl with | [_, _, _, _, _], _ => rfl), g__law_is_class_right := PySem.W.mg_of X G a56,
    f_law := fa, d_law := _, F_law := F57, b_law := F57.binds (fun _ _ _ _ _ _ us hl => match us, hl with | [_], _ => rfl), g_law := PySem.W.mg_of X G a57,
    k_class_of__row_rule_n := Fun_kbinds F37 (kb_class_of__row_rule_n) (perm_rel _ _),
    m_all := PySem.W.mg_none_of X G z0,
    m_bool := PySem.W.mg_none_of X G z1,
    m_enumerate := PySem.W.mg_none_of X G z2,
    m_int := PySem.W.mg_none_of X G z3,
    m_isinstance := PySem.W.mg_none_of X G z4,
    m_len := PySem.W.mg_none_of X G z5,
    m_list := PySem.W.mg_none_of X G z6,
    m_max := PySem.W.mg_none_of X G z7,
    m_min := PySem.W.mg_none_of X G z8,
    m_range := PySem.W.mg_none_of X G z9,
    m_repr := PySem.W.mg_none_of X G z10,
    m_set := PySem.W.mg_none_of X G z11,
    m_sorted := PySem.W.mg_none_of X G z12,
    m_tuple := PySem.W.mg_none_of X G z13,
    p_permutations := PySem.W.mg_of X G y }
  exact ⟨_, fun s v => .of_eq rfl, fun base _ _ => ok_law T⟩
end Law
open PySem PySem.W PyProof.Rows
set_option maxHeartbeats 0 in
theorem PySem.Challenge.cw_keptarcs_k30_whole_classes_by_plain_sear_holds : PySem.Challenge.rw_keptarcs_k30_whole_classes_by_plain_sear.Holds := by
  w_on; o_law; k_head; (case hw => w_witness2)
  k_fill
  refine Ka.walkG (l := PySem.Challenge.rw_keptarcs_k30_whole_classes_by_plain_sear) (n := 63) (k := 13) (x := "script") (sp := fun K => Ka.SpC K (Law.C_law K)) rfl (by decide) rfl ⟨⟨rfl, by decide, by decide⟩, rfl⟩ (fun w h Y => PySem.W.kIn_of Y) ?F Law.law_starts
  case F =>
    intro w mg fa h KX G hmg
    refine' Law.all_mk KX G hmg ?a0 ?l0 ?c0 ?k0 ?a1 ?l1 ?c1 ?k1 ?a2 ?l2 ?c2 ?k2 ?a3 ?l3 ?c3 ?k3 ?a4 ?l4 ?c4 ?k4 ?a5 ?l5 ?c5 ?k5 ?a6 ?l6 ?c6 ?k6 ?a7 ?l7 ?c7 ?k7 ?a8 ?l8 ?c8 ?k8 ?a9 ?l9 ?c9 ?k9 ?a10 ?l10 ?c10 ?k10 ?a11 ?l11 ?c11 ?k11 ?a12 ?l12 ?c12 ?k12 ?a13 ?l13 ?c13 ?k13 ?a14 ?l14 ?c14 ?k14 ?a15 ?l15 ?c15 ?k15 ?a16 ?l16 ?c16 ?k16 ?a17 ?l17 ?c17 ?k17 ?a18 ?l18 ?c18 ?k18 ?a19 ?l19 ?c19 ?k19 ?a20 ?l20 ?c20 ?k20 ?a21 ?l21 ?c21 ?k21 ?a22 ?l22 ?c22 ?k22 ?a23 ?l23 ?c23 ?k23 ?a24 ?l24 ?c24 ?k24 ?a25 ?l25 ?c25 ?k25 ?a26 ?l26 ?c26 ?k26 ?a27 ?l27 ?c27 ?k27 ?a28 ?l28 ?c28 ?k28 ?a29 ?l29 ?c29 ?k29 ?a30 ?l30 ?c30 ?k30 ?a31 ?l31 ?c31 ?k31 ?a32 ?l32 ?c32 ?k32 ?a33 ?l33 ?c33 ?k33 ?a34 ?l34 ?c34 ?k34 ?a35 ?l35 ?c35 ?k35 ?a36 ?l36 ?c36 ?k36 ?a37 ?l37 ?c37 ?k37 ?a38 ?l38 ?c38 ?k38 ?a39 ?l39 ?c39 ?k39 ?a40 ?l40 ?c40 ?k40 ?a41 ?l41 ?c41 ?k41 ?a42 ?l42 ?c42 ?k42 ?a43 ?l43 ?c43 ?k43 ?a44 ?l44 ?c44 ?k44 ?a45 ?l45 ?c45 ?k45 ?a46 ?l46 ?c46 ?k46 ?a47 ?l47 ?c47 ?k47 ?a48 ?l48 ?c48 ?k48 ?a49 ?l49 ?c49 ?k49 ?a50 ?l50 ?c50 ?k50 ?a51 ?l51 ?c51 ?k51 ?a52 ?l52 ?c52 ?k52 ?a53 ?l53 ?c53 ?k53 ?a54 ?l54 ?c54 ?k54 ?a55 ?l55 ?c55 ?k55 ?a56 ?l56 ?c56 ?k56 ?a57 ?l57 ?c57 ?k57 ?z0 ?z1 ?z2 ?z3 ?z4 ?z5 ?z6 ?z7 ?z8 ?z9 ?z10 ?z11 ?z12 ?z13 ?y
    (case a0 => k_is); (case l0 => k_is); (case c0 => k_is); (case k0 => k_is); (case a1 => k_is); (case l1 => k_is); (case c1 => k_is); (case k1 => k_is); (case a2 => k_is); (case l2 => k_is); (case c2 => k_is); (case k2 => k_is); (case a3 => k_is); (case l3 => k_is); (case c3 => k_is); (case k3 => k_is); (case a4 => k_is); (case l4 => k_is); (case c4 => k_is); (case k4 => k_is); (case a5 => k_is); (case l5 => k_is); (case c5 => k_is); (case k5 => k_is); (case a6 => k_is); (case l6 => k_is); (case c6 => k_is); (case k6 => k_is); (case a7 => k_is); (case l7 => k_is); (case c7 => k_is); (case k7 => k_is); (case a8 => k_is); (case l8 => k_is); (case c8 => k_is); (case k8 => k_is); (case a9 => k_is); (case l9 => k_is); (case c9 => k_is); (case k9 => k_is); (case a10 => k_is); (case l10 => k_is); (case c10 => k_is); (case k10 => k_is); (case a11 => k_is); (case l11 => k_is); (case c11 => k_is); (case k11 => k_is); (case a12 => k_is); (case l12 => k_is); (case c12 => k_is); (case k12 => k_is); (case a13 => k_is); (case l13 => k_is); (case c13 => k_is); (case k13 => k_is); (case a14 => k_is); (case l14 => k_is); (case c14 => k_is); (case k14 => k_is); (case a15 => k_is); (case l15 => k_is); (case c15 => k_is); (case k15 => k_is); (case a16 => k_is); (case l16 => k_is); (case c16 => k_is); (case k16 => k_is); (case a17 => k_is); (case l17 => k_is); (case c17 => k_is); (case k17 => k_is); (case a18 => k_is); (case l18 => k_is); (case c18 => k_is); (case k18 => k_is); (case a19 => k_is); (case l19 => k_is); (case c19 => k_is); (case k19 => k_is); (case a20 => k_is); (case l20 => k_is); (case c20 => k_is); (case k20 => k_is); (case a21 => k_is); (case l21 => k_is); (case c21 => k_is); (case k21 => k_is); (case a22 => k_is); (case l22 => k_is); (case c22 => k_is); (case k22 => k_is); (case a23 => k_is); (case l23 => k_is); (case c23 => k_is); (case k23 => k_is); (case a24 => k_is); (case l24 => k_is); (case c24 => k_is); (case k24 => k_is); (case a25 => k_is); (case l25 => k_is); (case c25 => k_is); (case k25 => k_is); (case a26 => k_is); (case l26 => k_is); (case c26 => k_is); (case k26 => k_is); (case a27 => k_is); (case l27 => k_is); (case c27 => k_is); (case k27 => k_is); (case a28 => k_is); (case l28 => k_is); (case c28 => k_is); (case k28 => k_is); (case a29 => k_is); (case l29 => k_is); (case c29 => k_is); (case k29 => k_is); (case a30 => k_is); (case l30 => k_is); (case c30 => k_is); (case k30 => k_is); (case a31 => k_is); (case l31 => k_is); (case c31 => k_is); (case k31 => k_is); (case a32 => k_is); (case l32 => k_is); (case c32 => k_is); (case k32 => k_is); (case a33 => k_is); (case l33 => k_is); (case c33 => k_is); (case k33 => k_is); (case a34 => k_is); (case l34 => k_is); (case c34 => k_is); (case k34 => k_is); (case a35 => k_is); (case l35 => k_is); (case c35 => k_is); (case k35 => k_is); (case a36 => k_is); (case l36 => k_is); (case c36 => k_is); (case k36 => k_is); (case a37 => k_is); (case l37 => k_is); (case c37 => k_is); (case k37 => k_is); (case a38 => k_is); (case l38 => k_is); (case c38 => k_is); (case k38 => k_is); (case a39 => k_is); (case l39 => k_is); (case c39 => k_is); (case k39 => k_is); (case a40 => k_is); (case l40 => k_is); (case c40 => k_is); (case k40 => k_is); (case a41 => k_is); (case l41 => k_is); (case c41 => k_is); (case k41 => k_is); (case a42 => k_is); (case l42 => k_is); (case c42 => k_is); (case k42 => k_is); (case a43 => k_is); (case l43 => k_is); (case c43 => k_is); (case k43 => k_is); (case a44 => k_is); (case l44 => k_is); (case c44 => k_is); (case k44 => k_is); (case a45 => k_is); (case l45 => k_is); (case c45 => k_is); (case k45 => k_is); (case a46 => k_is); (case l46 => k_is); (case c46 => k_is); (case k46 => k_is); (case a47 => k_is); (case l47 => k_is); (case c47 => k_is); (case k47 => k_is); (case a48 => k_is); (case l48 => k_is); (case c48 => k_is); (case k48 => k_is); (case a49 => k_is); (case l49 => k_is); (case c49 => k_is); (case k49 => k_is); (case a50 => k_is); (case l50 => k_is); (case c50 => k_is); (case k50 => k_is); (case a51 => k_is); (case l51 => k_is); (case c51 => k_is); (case k51 => k_is); (case a52 => k_is); (case l52 => k_is); (case c52 => k_is); (case k52 => k_is); (case a53 => k_is); (case l53 => k_is); (case c53 => k_is); (case k53 => k_is); (case a54 => k_is); (case l54 => k_is); (case c54 => k_is); (case k54 => k_is); (case a55 => k_is); (case l55 => k_is); (case c55 => k_is); (case k55 => k_is); (case a56 => k_is); (case l56 => k_is); (case c56 => k_is); (case k56 => k_is); (case a57 => k_is); (case l57 => k_is); (case c57 => k_is); (case k57 => k_is); (case z0 => k_is); (case z1 => k_is); (case z2 => k_is); (case z3 => k_is); (case z4 => k_is); (case z5 => k_is); (case z6 => k_is); (case z7 => k_is); (case z8 => k_is); (case z9 => k_is); (case z10 => k_is); (case z11 => k_is); (case z12 => k_is); (case z13 => k_is); (case y => k_is)
