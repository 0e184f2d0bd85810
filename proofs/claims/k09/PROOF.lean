import PyProof.Rows.All
import HandS.TupSets
import KE.KeyNested
import KE.SortData
import PyProof.SetRoads
import Wide.All
import OpenK.AllK
import Wide.FinOn
import HandS.ForExc
import HandS.Comp
import HandS.Evl
import HandS.Deep
import HandS.IsInst
import HandS.ExcIs
import HandS.Set
import HandS.Strs
import HandS.SetFor
import HandS.SetBool
import KE.KDictKeyed
import KE.KDictWalk
import KE.KDictLaw
import KE.KDictDisplayH
import HandS.ForDict
import HandS.TupAny
import HandS.Iter
import HandS.TryMany
import HandS.Zip
import HandS.Sort
import HandS.FStr
import HandS.Small
import HandS.Text
import PyProof.MinMaxWalk
import PyProof.WalksMore
import PyProof.Rows.MatchSeqLen
import PyProof.RulesMatchSeq
import KE.IntTextLaws
import KE.DataCmp
import PySem.Challenge.RW_mazeguide_k09_whole_walk_or_shut
set_option Elab.async false
set_option linter.all false
set_option maxRecDepth 100000
set_option maxHeartbeats 1000000
/-! sets of keys, however many: the table they lie in -/
namespace Pf
open PySem PySem.Spec PyProof.Rows L2
/-- 1 + 5 + 25 + ..., n of them -/
def geo : Nat → Nat
  | 0 => 0
  | n + 1 => geo n * 5 + 1
theorem geo_sum (a : Nat) : ∀ b, geo (a + b) = 5 ^ b * geo a + geo b
  | 0 => by simp [geo]
  | b + 1 => by
    show geo (a + b) * 5 + 1 = 5 ^ (b + 1) * geo a + (geo b * 5 + 1)
    have e : 5 ^ (b + 1) * geo a = 5 ^ b * geo a * 5 := by rw [Nat.pow_succ, Nat.mul_right_comm]
    rw [geo_sum a b, e]; omega
theorem geo_par : ∀ n, geo n % 2 = n % 2
  | 0 => rfl
  | n + 1 => by have := geo_par n; show (geo n * 5 + 1) % 2 = _; omega
theorem five_four : ∀ n, 5 ^ n % 4 = 1
  | 0 => rfl
  | n + 1 => by have := five_four n; rw [Nat.pow_succ]; omega
theorem geo_twice (e : Nat) : ∃ q, geo (e + e) = 2 * (geo e * q) ∧ q % 2 = 1 := by
  have h4 := five_four e
  obtain ⟨q, hq, ho⟩ : ∃ q, 5 ^ e + 1 = 2 * q ∧ q % 2 = 1 := ⟨(5 ^ e + 1) / 2, by omega, by omega⟩
  refine ⟨q, ?_, ho⟩
  have h : 5 ^ e * geo e + geo e = (5 ^ e + 1) * geo e := by rw [Nat.succ_mul]
  rw [geo_sum, h, hq]; ac_rfl
theorem odd_cop {n q : Nat} (h : q % 2 = 1) : Nat.Coprime (2 ^ n) q := by
  refine Nat.Coprime.pow_left n ?_
  have : Nat.gcd 2 q = Nat.gcd (q % 2) 2 := by rw [Nat.gcd_rec]
  show Nat.gcd 2 q = 1
  rw [this, h]; rfl
theorem geo_dvd : ∀ n d, 2 ^ n ∣ geo d → 2 ^ n ∣ d
  | 0, d, _ => by simp
  | n + 1, d, h => by
    have hp := geo_par d
    have h2 : 2 ∣ geo d := Nat.dvd_trans ⟨2 ^ n, by rw [Nat.pow_succ, Nat.mul_comm]⟩ h
    obtain ⟨e, rfl⟩ : ∃ e, d = e + e := ⟨d / 2, by omega⟩
    obtain ⟨q, e1, ho⟩ := geo_twice e
    rw [e1, Nat.pow_succ, Nat.mul_comm (2 ^ n) 2] at h
    have h5 : 2 ^ n ∣ geo e * q := Nat.dvd_of_mul_dvd_mul_left (by decide) h
    have h6 := geo_dvd n e ((odd_cop ho).dvd_of_dvd_mul_right h5)
    rw [Nat.pow_succ]
    obtain ⟨c, hc⟩ := h6
    exact ⟨c, by rw [hc]; have : 2 ^ n * 2 * c = 2 ^ n * c * 2 := by rw [Nat.mul_right_comm]
                 omega⟩
theorem geo_round : ∀ n, 2 ^ n ∣ geo (2 ^ n)
  | 0 => by simp
  | n + 1 => by
    have e : 2 ^ (n + 1) = 2 ^ n + 2 ^ n := by rw [Nat.pow_succ]; omega
    obtain ⟨q, e1, _⟩ := geo_twice (2 ^ n)
    obtain ⟨c, hc⟩ := geo_round n
    have e2 : geo (2 ^ (n + 1)) = 2 ^ (n + 1) * (c * q) := by
      rw [e, e1, hc, ← e, Nat.pow_succ]; ac_rfl
    exact ⟨_, e2⟩
theorem geo_inj {n a d : Nat} (h : geo (d + a) % 2 ^ n = geo a % 2 ^ n) : 2 ^ n ∣ d := by
  rw [geo_sum] at h
  have h1 : 2 ^ n ∣ 5 ^ a * geo d := by
    have := Nat.sub_mod_eq_zero_of_mod_eq h
    rw [Nat.add_sub_cancel] at this
    exact Nat.dvd_of_mod_eq_zero this
  have o5 : 5 ^ a % 2 = 1 := by have := five_four a; omega
  exact geo_dvd n d ((odd_cop o5).dvd_of_dvd_mul_left h1)

/-! going round: i, 5 i + 1, ... meets all of 2 ^ n slots -/
theorem lcg_geo (m : Nat) : ∀ k, lcgN m k = geo k % (m + 1)
  | 0 => by show 0 = 0 % (m + 1); rw [Nat.zero_mod]
  | k + 1 => by
    have e : lcgN m (k + 1) = (lcgN m k * 5 + 1) % (m + 1) := rfl
    rw [e, lcg_geo m k]
    show (geo k % (m + 1) * 5 + 1) % (m + 1) = (geo k * 5 + 1) % (m + 1)
    rw [Nat.add_mod, Nat.mod_mul_mod, ← Nat.add_mod]
/-- a table's size less one -/
def Msk (m : Nat) : Prop := ∃ n, 3 ≤ n ∧ n ≤ 13 ∧ n % 2 = 1 ∧ m + 1 = 2 ^ n
theorem Msk.odd {m : Nat} (h : Msk m) : m % 2 = 1 := by
  obtain ⟨n, h1, _, _, h3⟩ := h
  obtain ⟨k, rfl⟩ : ∃ k, n = k + 1 := ⟨n - 1, by omega⟩
  rw [Nat.pow_succ] at h3
  omega
theorem Msk.big {m : Nat} (h : Msk m) : m ≤ 8191 := by
  obtain ⟨n, _, h2, _, h3⟩ := h
  have : 2 ^ n ≤ 2 ^ 13 := Nat.pow_le_pow_right (by decide) h2
  omega
theorem onto_of_inj {N : Nat} {f : Nat → Nat} (hf : ∀ k < N, f k < N) (inj : ∀ a d, d + a < N → 0 < d → f (d + a) ≠ f a) : ∀ j < N, ∃ k, k < N ∧ f k = j := fun j hj => by
  refine Classical.byContradiction fun no => ?_
  have nd : ((List.range N).map f).Nodup := by
    refine List.pairwise_map.mpr (List.Pairwise.imp_of_mem (fun {a b} ha hb lt e => ?_) (List.pairwise_lt_range (n := N)))
    have hb' := List.mem_range.mp hb
    obtain ⟨d, rfl⟩ : ∃ d, b = d + a := ⟨b - a, by omega⟩
    exact inj a d hb' (by omega) e.symm
  have le := nat_nodup_len _ ((List.range N).erase j) nd fun x hx => by
    obtain ⟨k, hk, rfl⟩ := List.mem_map.mp hx
    have hk' := List.mem_range.mp hk
    exact (List.mem_erase_of_ne fun e => no ⟨k, hk', e⟩).mpr (List.mem_range.mpr (hf k hk'))
  rw [List.length_erase_of_mem (List.mem_range.mpr hj), List.length_map, List.length_range] at le
  omega
theorem round_all {m : Nat} (hm : Msk m) {i j : Nat} (hi : i ≤ m) (hj : j ≤ m) : ∃ k, k ≤ m ∧ lcgI m i k = j := by
  obtain ⟨n, _, _, _, hn⟩ := hm
  have all : ∀ j ≤ m, ∃ k, k ≤ m ∧ lcgN m k = j := fun j hj => by
    obtain ⟨k, h1, h2⟩ := onto_of_inj (N := m + 1) (f := lcgN m) (fun k _ => by rw [lcg_geo]; exact Nat.mod_lt _ (Nat.succ_pos _)) (fun a d hd h0 e => by
      rw [lcg_geo, lcg_geo, hn] at e
      have := Nat.le_of_dvd h0 (geo_inj e)
      omega) j (by omega)
    exact ⟨k, by omega, h2⟩
  have again : ∀ k, lcgN m (m + 1 + k) = lcgN m k := fun k => by
    obtain ⟨c, hc⟩ := geo_round n
    rw [lcg_geo, lcg_geo, geo_sum, hn, hc]
    have e : 5 ^ k * (2 ^ n * c) = 2 ^ n * (5 ^ k * c) := by ac_rfl
    rw [e, Nat.mul_add_mod]
  obtain ⟨a, ha, rfl⟩ := all i hi
  obtain ⟨b, hb, rfl⟩ := all j hj
  by_cases c : a ≤ b
  · exact ⟨b - a, by omega, by rw [lcgN_add]; exact congrArg _ (by omega)⟩
  · refine ⟨b + m + 1 - a, by omega, ?_⟩
    rw [lcgN_add, ← again b]
    exact congrArg _ (by omega)
/-- every slot begins a run, and soon -/
theorem run_all {m : Nat} (hm : Msk m) (h : Int) {j : Nat} (hj : j ≤ m) : ∃ n, n ≤ m + 12 ∧ runI m (SetTable.bits h) n = j := by
  obtain ⟨k, h1, h2⟩ := round_all hm (runI_le m (SetTable.bits h) 12) hj
  exact ⟨12 + k, by omega, (runI_tail (bits_lt h) k).trans h2⟩
theorem way_all {m : Nat} (hm : Msk m) (h : Int) {j : Nat} (hj : j ≤ m) : ∃ k, k < 10 * SetTable.turns m ∧ way m h k = j := by
  obtain ⟨n, h1, h2⟩ := run_all hm h hj
  obtain ⟨k, h3, h4⟩ := run_nth m (SetTable.bits h) n
  have lim : n < SetTable.turns m := by unfold SetTable.turns; omega
  refine ⟨k, by omega, (congrArg SetTable.Probe.j h4).trans h2⟩
theorem way_in {m : Nat} {h : Int} {k : Nat} : way m h k ≤ m := by
  have h0 : SetTable.bits h % (m + 1) ≤ m := Nat.le_of_lt_succ (Nat.mod_lt _ (Nat.succ_pos _))
  have h1 := (runEnd_bd h0).1
  have h2 := (runEnd_bd h0).2.1
  have start : (runAt m (SetTable.bits h % (m + 1)) (SetTable.bits h)).j + (runAt m (SetTable.bits h % (m + 1)) (SetTable.bits h)).more ≤ m := by
    unfold runAt; dsimp only; omega
  exact Nat.le_trans (Nat.le_add_right _ _) (nth_in k _ start)
/-- a table without gaps of its own: from each row's hash its slot is met, over taken slots alone -/
structure Tb (t : SetTable) (hs : List Int) : Prop where
  up : Ris t.place.toList
  clean : t.dummies = #[]
  many : t.place.size = hs.length
  msk : Msk t.mask
  inn : ∀ x ∈ t.place.toList, x ≤ t.mask
  met : ∀ (i : Nat) (h : Int) (j : Nat), hs[i]? = some h → t.place.toList[i]? = some j → ∃ k, way t.mask h k = j ∧ ∀ c, c < k → way t.mask h c ∈ t.place.toList
section
variable {t : SetTable} {hs : List Int} {h : Int} {K : Nat}
/-- the first free slot of a way -/
def Gap (t : SetTable) (h : Int) (K : Nat) : Prop := way t.mask h K ∉ t.place.toList ∧ ∀ c, c < K → way t.mask h c ∈ t.place.toList
theorem Tb.gap (T : Tb t hs) (few : hs.length ≤ t.mask) (h : Int) : ∃ K, K < 10 * SetTable.turns t.mask ∧ Gap t h K := by
  have hl : t.place.toList.length = hs.length := by rw [Array.length_toList]; exact T.many
  obtain ⟨j, j1, j2⟩ := st_missing t.place.toList (t.mask + 1) (by omega)
  obtain ⟨k, k1, k2⟩ := way_all T.msk h (Nat.le_of_lt_succ j1)
  obtain ⟨K, c1, c2, c3⟩ := st_least (p := fun k => way t.mask h k ∉ t.place.toList) k (k2 ▸ j2)
  exact ⟨K, by omega, c2, fun c hc => Classical.byContradiction (c3 c hc)⟩
theorem Tb.ahead (T : Tb t hs) (g : Gap t h K) {i j : Nat} (hi : hs[i]? = some h) (hj : t.place.toList[i]? = some j) : ∃ k, k < K ∧ way t.mask h k = j := by
  obtain ⟨k, e, all⟩ := T.met i h j hi hj
  refine ⟨k, Classical.byContradiction fun no => ?_, e⟩
  rcases Nat.lt_or_ge K k with c | c
  · exact g.1 (all K c)
  · obtain rfl : k = K := by omega
    exact g.1 (e ▸ List.mem_of_getElem? hj)
/-- one put into its gap -/
theorem Tb.put (T : Tb t hs) (g : Gap t h K) {j p : Nat} (ej : way t.mask h K = j) (ep : SetTable.below t.place j = p) :
    p ≤ hs.length ∧ (t.put j).2 = p ∧ Tb (t.put j).1 (hs.take p ++ h :: hs.drop p) ∧ (t.put j).1.fill = hs.length + 1 := by
  have jm : j ≤ t.mask := ej ▸ way_in
  have free : j ∉ t.place.toList := ej ▸ g.1
  have hl : t.place.toList.length = hs.length := by rw [Array.length_toList]; exact T.many
  have p1 : p ≤ t.place.toList.length := by rw [← ep, Array.length_toList]; exact (below_cut T.up j).1
  have p2 : p ≤ hs.length := hl ▸ p1
  have list : (t.put j).1.place.toList = t.place.toList.take p ++ j :: t.place.toList.drop p := by rw [put_place, ep]
  have stay : ∀ {x : Nat}, x ∈ t.place.toList → x ∈ (t.put j).1.place.toList := fun {x} hx => by rw [list]; exact mem_ins.mpr (.inr hx)
  have one : t.place[SetTable.below t.place j]? ≠ some j := fun e => free (List.mem_of_getElem? (i := SetTable.below t.place j) (by rw [Array.getElem?_toList]; exact e))
  have size : (t.put j).1.place.size = hs.length + 1 := by rw [← Array.length_toList, list, len_ins _ p1, hl]
  refine ⟨p2, ep, ⟨ris_insert T.up one, put_dm T.clean j, by rw [len_ins _ p2]; exact size, T.msk, fun x hx => ?_, fun i g' j' a b => ?_⟩, ?_⟩
  · rw [list] at hx
    rcases mem_ins.mp hx with z | z
    · rw [z]; exact jm
    · exact T.inn x z
  · rw [tins_get hs p2] at a
    rw [list, tins_get _ p1] at b
    have old : ∀ i, hs[i]? = some g' → t.place.toList[i]? = some j' → ∃ k, way (t.put j).1.mask g' k = j' ∧ ∀ c, c < k → way (t.put j).1.mask g' c ∈ (t.put j).1.place.toList := fun i a b => by
      obtain ⟨k, e, all⟩ := T.met i g' j' a b
      exact ⟨k, e, fun c hc => stay (all c hc)⟩
    by_cases c : i < p
    · rw [if_pos c] at a b; exact old i a b
    · rw [if_neg c] at a b
      by_cases d : i = p
      · rw [if_pos d] at a b
        obtain rfl := Option.some.inj a
        obtain rfl := Option.some.inj b
        exact ⟨K, ej, fun c hc => stay (g.2 c hc)⟩
      · rw [if_neg d] at a b; exact old (i - 1) a b
  · have e : (t.put j).1.fill = (t.put j).1.place.size + (t.put j).1.dummies.size := rfl
    rw [e, size, put_dm T.clean j]; rfl
/-! laid anew -/
theorem own_step {m : Nat} (hm : Msk m) {done : List Int} {owner : Array (Option Nat)} (W : Own m done owner) (few : done.length ≤ m) (h : Int) :
    ∃ j, SetTable.layClean.free m owner (SetTable.turns m) (SetTable.bits h % (m + 1)) (SetTable.bits h) = some j ∧ Own m (done ++ [h]) (owner.setIfInBounds j (some done.length)) := by
  obtain ⟨ps, p1, p2⟩ := W.ps
  obtain ⟨j0, a1, a2⟩ := st_missing ps (m + 1) (by omega)
  have a3 : oAt owner j0 = none := Classical.byContradiction fun z => a2 (p2 j0 (Nat.le_of_lt_succ a1) z)
  obtain ⟨n, n1, n2⟩ := run_all hm h (Nat.le_of_lt_succ a1)
  have there : way m h (off m (SetTable.bits h % (m + 1)) (SetTable.bits h) n) = j0 := by
    have e := nth_off m n (SetTable.bits h % (m + 1)) (SetTable.bits h)
    rw [itL_run] at e
    exact (congrArg SetTable.Probe.j e).trans n2
  obtain ⟨K, c1, c2, c3⟩ := st_least (p := fun k => oAt owner (way m h k) = none) _ (show oAt owner (way m h _) = none from there ▸ a3)
  have found : SetTable.layClean.free m owner (SetTable.turns m) (SetTable.bits h % (m + 1)) (SetTable.bits h) = some (way m h K) := by
    refine free_spec m owner (SetTable.turns m) n _ _ K (by unfold SetTable.turns; omega) c1 (fun k hk => ?_) (Option.isNone_iff_eq_none.mpr c2)
    exact Option.isNone_eq_false_iff.mpr (Option.isSome_iff_ne_none.mpr (c3 k hk))
  refine ⟨_, found, ?_⟩
  generalize ej : way m h K = j at c2
  have jm : j ≤ m := ej ▸ way_in
  have self : oAt (owner.setIfInBounds j (some done.length)) j = some done.length := oAt_set_self _ (by rw [W.sz]; omega)
  have keep : ∀ {i : Nat}, oAt owner i ≠ none → oAt (owner.setIfInBounds j (some done.length)) i ≠ none := fun {i} hi => by
    by_cases c : i = j
    · rw [c, self]; exact fun z => nomatch z
    · rw [oAt_set_ne _ c]; exact hi
  refine ⟨by rw [Array.size_setIfInBounds]; exact W.sz, fun i k hi e => ?_, fun k hk => ?_, j :: ps, by rw [List.length_cons, List.length_append, p1]; rfl, fun i hi e => ?_⟩
  · by_cases c : i = j
    · subst c
      rw [self] at e
      obtain rfl := Option.some.inj e
      exact ⟨h, K, by rw [List.getElem?_append_right (Nat.le_refl _), Nat.sub_self]; rfl, ej, fun x hx => keep (c3 x hx)⟩
    · rw [oAt_set_ne _ c] at e
      obtain ⟨g, L, b1, b2, b3⟩ := W.at_ i k hi e
      exact ⟨g, L, by rw [List.getElem?_append_left (List.getElem?_eq_some_iff.mp b1).1]; exact b1, b2, fun x hx => keep (b3 x hx)⟩
  · rw [List.length_append, List.length_singleton] at hk
    by_cases c : k < done.length
    · obtain ⟨i, b1, b2⟩ := W.all k c
      refine ⟨i, b1, ?_⟩
      rw [oAt_set_ne]
      · exact b2
      · intro z; rw [z, c2] at b2; cases b2
    · obtain rfl : k = done.length := by omega
      exact ⟨j, jm, self⟩
  · by_cases c : i = j
    · rw [c]; exact List.mem_cons_self
    · rw [oAt_set_ne _ c] at e
      exact List.mem_cons_of_mem _ (p2 i hi e)
theorem own_fold {m : Nat} (hm : Msk m) : ∀ (more done : List Int) (owner : Array (Option Nat)), Own m done owner → done.length + more.length ≤ m →
    ∃ last, more.foldl (stepF m) (some (owner, done.length)) = some (last, done.length + more.length) ∧ Own m (done ++ more) last
  | [], done, owner, W, _ => ⟨owner, rfl, (List.append_nil done).symm ▸ W⟩
  | h :: more, done, owner, W, few => by
    rw [List.length_cons] at few
    obtain ⟨j, e, W1⟩ := own_step hm W (by omega) h
    have l1 : (done ++ [h]).length = done.length + 1 := List.length_append
    obtain ⟨last, e1, W2⟩ := own_fold hm more (done ++ [h]) _ W1 (by omega)
    rw [List.append_assoc] at W2
    refine ⟨last, ?_, W2⟩
    rw [List.foldl_cons, stepF_some e, ← l1, e1, l1, List.length_cons]
    exact congrArg some (Prod.ext rfl (show done.length + 1 + more.length = done.length + (more.length + 1) by omega))
theorem lay_all {m : Nat} (hm : Msk m) {hs : Array Int} (few : hs.size ≤ m) : ∃ owner, SetTable.layClean m hs = some owner ∧ Own m hs.toList owner := by
  have few' : ([] : List Int).length + hs.toList.length ≤ m := by rw [Array.length_toList]; show 0 + hs.size ≤ m; omega
  obtain ⟨owner, e, W⟩ := own_fold hm hs.toList [] _ (Own.init m) few'
  refine ⟨owner, ?_, W⟩
  rw [layClean_eq]
  have e' : hs.toList.foldl (stepF m) (some (Array.replicate (m + 1) none, 0)) = some (owner, ([] : List Int).length + hs.toList.length) := e
  rw [e']; rfl
theorem laid_anew (t : SetTable) {hs : Array Int} {wanted M : Nat} (hw : SetTable.sizeAbove wanted - 1 = M) (hM : Msk M) (few : hs.size ≤ M) :
    ∃ t' order, t.relaid hs wanted = some (t', order) ∧ order.toList.Perm (List.range hs.size) ∧ Tb t' (order.toList.map fun i => hs.getD i 0) ∧ t'.mask = M ∧ t'.led = t.led ∧ t'.plain = t.plain := by
  obtain ⟨owner, e, W⟩ := lay_all hM few
  have e1 : t.relaid hs wanted = some (tabOf t M owner, ((liveOf M owner).map (·.2)).toArray) := by rw [relaid_eq, hw, e]; rfl
  have up0 : Ris (List.range (M + 1)) := List.pairwise_lt_range
  have up : Ris ((liveOf M owner).map (·.1)) := (ris_live (fun j => owner.getD j none) (List.range (M + 1)) up0).1
  have inn : ∀ x ∈ (liveOf M owner).map (·.1), x ∈ List.range (M + 1) := (ris_live (fun j => owner.getD j none) (List.range (M + 1)) up0).2
  have two : ∀ {j k : Nat}, (j, k) ∈ liveOf M owner ↔ j ≤ M ∧ oAt owner j = some k := fun {j k} => mem_live W.sz
  have every : ∀ k, k < hs.size → k ∈ (liveOf M owner).map (·.2) := fun k hk => by
    obtain ⟨j, b1, b2⟩ := W.all k (by rw [Array.length_toList]; exact hk)
    exact List.mem_map.mpr ⟨(j, k), two.mpr ⟨b1, b2⟩, rfl⟩
  have len : (liveOf M owner).length = hs.size := by
    obtain ⟨ps, p1, p2⟩ := W.ps
    have nd : ((liveOf M owner).map (·.1)).Nodup := List.Pairwise.imp (fun z => Nat.ne_of_lt z) up
    have le1 := nat_nodup_len ((liveOf M owner).map (·.1)) ps nd fun x hx => by
      obtain ⟨⟨y, k⟩, hq, rfl⟩ := List.mem_map.mp hx
      exact p2 y (two.mp hq).1 (by rw [(two.mp hq).2]; exact fun z => nomatch z)
    have le2 := nat_nodup_len (List.range hs.size) ((liveOf M owner).map (·.2)) List.nodup_range fun k hk => every k (List.mem_range.mp hk)
    rw [List.length_map, p1] at le1
    have hz : hs.toList.length = hs.size := rfl
    rw [List.length_map, List.length_range] at le2
    omega
  refine ⟨_, _, e1, perm_range hs.size _ ?_ every, ⟨up, rfl, ?_, hM, fun x hx => Nat.le_of_lt_succ (List.mem_range.mp (inn x hx)), fun i g j a b => ?_⟩, rfl, rfl, rfl⟩
  · rw [List.length_map]; exact len
  · show ((liveOf M owner).map (·.1)).toArray.size = (((liveOf M owner).map (·.2)).map _).length
    rw [List.size_toArray, List.length_map, List.length_map, List.length_map]
  · have a' : (((liveOf M owner).map (·.2)).map fun i => hs.getD i 0)[i]? = some g := a
    have b' : ((liveOf M owner).map (·.1))[i]? = some j := b
    rw [List.getElem?_map, List.getElem?_map] at a'
    rw [List.getElem?_map] at b'
    cases hq : (liveOf M owner)[i]? with
    | none => rw [hq] at b'; cases b'
    | some q =>
      obtain ⟨y, k⟩ := q
      rw [hq] at a' b'
      obtain rfl : y = j := Option.some.inj b'
      obtain ⟨y1, y2⟩ := two.mp (List.mem_of_getElem? hq)
      obtain ⟨h0, K, c1, c2, c3⟩ := W.at_ y k y1 y2
      have e0 : hs.getD k 0 = h0 := by rw [Array.getD_eq_getD_getElem?, ← Array.getElem?_toList, c1]; rfl
      obtain rfl : h0 = g := e0.symm.trans (Option.some.inj a')
      refine ⟨K, c2, fun c hc => ?_⟩
      obtain ⟨x, hx⟩ := Option.ne_none_iff_exists'.mp (c3 c hc)
      exact List.mem_map.mpr ⟨(way M h0 c, x), two.mpr ⟨way_in, hx⟩, rfl⟩
end
end Pf

/-! sets of keys, however many: looked up, added to, sorted -/
namespace Pf
open PySem PySem.Spec PyProof.Rows L2
/-! what is asked of keys -/
mutual
/-- made of whole numbers and tuples alone -/
def nk : NestedKey → Bool
  | .num _ => true
  | .tup ks => nks ks
  | .none => false
  | .text _ => false
def nks : List NestedKey → Bool
  | [] => true
  | k :: r => nk k && nks r
end
section
variable {P : Program} {w : World}
/-- a question f, asked of v at s, is answered b -/
def Says (P : Program) (w : World) (f : Value → Sem Bool) (b : Bool) (s : Shared) (v : Value) : Prop := ∀ (A : Around) (E : Value → Shared → Prop) (Q : Bool → Shared → Prop), Q b s → wpAny (model P w) A (f v) Q E s
theorem of_tuple {n : Nat} {s : Shared} {a : Addr} {o : Obj} {vs : Array Value} {m : Nat} (ho : s.heap.get? a = some o) (hc : o.cls = .type "tuple") (hd : o.data = .seq vs m)
    (all : ∀ v ∈ vs.toList, Says P w (ofAClassStatement n) false s v) : Says P w (ofAClassStatement (n + 1)) false s (.ref a) := fun A E Q q => by
  have ty : s.TypeIs (.ref a) "tuple" := ⟨o, ho, hc⟩
  unfold ofAClassStatement
  refine wpAny_bind (wpAny_typeOf ty ?_)
  dsimp only
  have yes : (("tuple" : String) == "tuple") = true := by decide
  simp only [yes, if_true, Bool.not_true, Bool.false_eq_true, if_false]
  try refine wpAny_bind (wpAny_pure ?_)
  try simp only [Bool.not_true, Bool.false_eq_true, if_false]
  show wpAny _ _ (seqItems? (.ref a) >>= _) _ _ s
  refine wpAny_bind (wpAny_seqItems ho hd ?_)
  dsimp only
  refine wpAny_bind ?_
  show wpAny _ _ (forIn vs _ _) _ _ s
  rw [← Array.forIn_toList]
  refine wpAny_forIn_list _ (fun left r s1 => s1 = s ∧ r.1 = none ∧ ∀ v ∈ left, Says P w (ofAClassStatement n) false s v) _ (fun v left r s1 h => ?_) (fun r s1 h => ?_) _ _ ⟨rfl, rfl, all⟩
  · obtain ⟨rfl, hr, hl⟩ := h
    refine wpAny_bind (hl v List.mem_cons_self _ _ _ ?_)
    simp only [Bool.false_eq_true, if_false]
    exact wpAny_pure ⟨rfl, rfl, fun u hu => hl u (List.mem_cons_of_mem _ hu)⟩
  · obtain ⟨rfl, hr, _⟩ := h
    obtain ⟨r1, r2⟩ := r
    obtain rfl : r1 = none := hr
    exact wpAny_pure q
mutual
theorem of_key : ∀ (k : NestedKey) (v : Value) (n : Nat) (s : Shared), NestedIs s.heap k v → k.depth ≤ n → Says P w (ofAClassStatement n) false s v
  | .none, _, n, s, x, _ => by cases x; cases n <;> exact fun A E Q q => wpAny_pure q
  | .num i, _, n, s, x, _ => by cases x <;> cases n <;> exact fun A E Q q => wpAny_pure q
  | .text y, _, n, s, x, _ => by cases x; cases n <;> exact fun A E Q q => wpAny_pure q
  | .tup ks, _, n, s, x, d => by
    cases x with
    | tup a b c e =>
      rw [NestedKey.depth] at d
      obtain ⟨n, rfl⟩ : ∃ j, n = j + 1 := ⟨n - 1, by omega⟩
      exact of_tuple a b c (of_keys ks _ n s e (by omega))
theorem of_keys : ∀ (ks : List NestedKey) (vs : List Value) (n : Nat) (s : Shared), NestedAll s.heap ks vs → NestedKey.depthAll ks ≤ n → ∀ v ∈ vs, Says P w (ofAClassStatement n) false s v
  | [], _, n, s, x, _, v, hv => by cases x; cases hv
  | k :: ks, _, n, s, x, d, v, hv => by
    cases x with
    | cons x1 x2 =>
      rw [NestedKey.depthAll] at d
      cases hv with
      | head => exact of_key k _ n s x1 (by omega)
      | tail _ hv => exact of_keys ks _ n s x2 (by omega) v hv
end
theorem by_tuple {n : Nat} {s : Shared} {a : Addr} {o : Obj} {vs : Array Value} {m : Nat} (ho : s.heap.get? a = some o) (hc : o.cls = .type "tuple") (hd : o.data = .seq vs m)
    (all : ∀ v ∈ vs.toList, Says P w (hashByValue n) true s v) : Says P w (hashByValue (n + 1)) true s (.ref a) := fun A E Q q => by
  have ty : s.TypeIs (.ref a) "tuple" := ⟨o, ho, hc⟩
  unfold hashByValue
  refine wpAny_bind (wpAny_specialOf ty F.slot_tuple_hash.lookup ?_)
  show wpAny _ _ (seqItems? (.ref a) >>= _) _ _ s
  refine wpAny_bind (wpAny_seqItems ho hd ?_)
  refine wpAny_bind ?_
  show wpAny _ _ (forIn vs _ _) _ _ s
  rw [← Array.forIn_toList]
  refine wpAny_forIn_list _ (fun left r s1 => s1 = s ∧ r.1 = none ∧ ∀ v ∈ left, Says P w (hashByValue n) true s v) _ (fun v left r s1 h => ?_) (fun r s1 h => ?_) _ _ ⟨rfl, rfl, all⟩
  · obtain ⟨rfl, hr, hl⟩ := h
    refine wpAny_bind (hl v List.mem_cons_self _ _ _ ?_)
    simp only [Bool.not_true, Bool.false_eq_true, if_false]
    exact wpAny_pure ⟨rfl, rfl, fun u hu => hl u (List.mem_cons_of_mem _ hu)⟩
  · obtain ⟨rfl, hr, _⟩ := h
    obtain ⟨r1, r2⟩ := r
    obtain rfl : r1 = none := hr
    exact wpAny_pure q
mutual
theorem by_key : ∀ (k : NestedKey) (v : Value) (n : Nat) (s : Shared), NestedIs s.heap k v → k.depth ≤ n → nk k = true → Says P w (hashByValue n) true s v
  | .none, _, n, s, x, _, y => by rw [nk] at y; cases y
  | .num i, _, n, s, x, _, _ => by cases x <;> cases n <;> exact fun A E Q q => wpAny_pure q
  | .text _, _, n, s, x, _, y => by rw [nk] at y; cases y
  | .tup ks, _, n, s, x, d, y => by
    cases x with
    | tup a b c e =>
      rw [NestedKey.depth] at d
      rw [nk] at y
      obtain ⟨n, rfl⟩ : ∃ j, n = j + 1 := ⟨n - 1, by omega⟩
      exact by_tuple a b c (by_keys ks _ n s e (by omega) y)
theorem by_keys : ∀ (ks : List NestedKey) (vs : List Value) (n : Nat) (s : Shared), NestedAll s.heap ks vs → NestedKey.depthAll ks ≤ n → nks ks = true → ∀ v ∈ vs, Says P w (hashByValue n) true s v
  | [], _, n, s, x, _, _, v, hv => by cases x; cases hv
  | k :: ks, _, n, s, x, d, y, v, hv => by
    cases x with
    | cons x1 x2 =>
      rw [NestedKey.depthAll] at d
      rw [nks, Bool.and_eq_true] at y
      cases hv with
      | head => exact by_key k _ n s x1 (by omega) y.1
      | tail _ hv => exact by_keys ks _ n s x2 (by omega) y.2 v hv
end
/-- the tuple at a is the key k, of numbers and tuples -/
def KeyAt (h : Heap) (k : NestedKey) (a : Addr) : Prop := (NestedIs h k (.ref a) ∧ k.depth ≤ 8) ∧ nk k = true
theorem KeyAt.kind {h : Heap} {k : NestedKey} {a : Addr} (x : KeyAt h k a) : (nestedKind P w).is h k a := x.1
theorem KeyAt.one {h : Heap} {k l : NestedKey} {a : Addr} (x : KeyAt h k a) (y : KeyAt h l a) : k = l := NestedIs.inj _ _ _ x.1.1 y.1.1
/-- a look among keys shows nothing -/
theorem unseen {s : Shared} {k : NestedKey} {b : Addr} (hk : KeyAt s.heap k b) {ys : List Value} (hy : ∀ y ∈ ys, ∃ l c, y = Value.ref c ∧ KeyAt s.heap l c) {A : Around} {E : Value → Shared → Prop} {Q : Bool → Shared → Prop} (q : Q false s) :
    wpAny (model P w) A (searchCouldBeSeen (.ref b) ys) Q E s := by
  unfold searchCouldBeSeen
  refine wpAny_bind ?_
  refine wpAny_forIn_list _ (fun left r s1 => s1 = s ∧ r.1 = none ∧ ∀ y ∈ left, ∃ l c, y = Value.ref c ∧ KeyAt s.heap l c) _ (fun v left r s1 h => ?_) (fun r s1 h => ?_) _ _ ⟨rfl, rfl, hy⟩
  · obtain ⟨rfl, hr, hl⟩ := h
    obtain ⟨l, c, rfl, hc⟩ := hl v List.mem_cons_self
    have more : ∀ y ∈ left, ∃ l c, y = Value.ref c ∧ KeyAt s1.heap l c := fun u hu => hl u (List.mem_cons_of_mem _ hu)
    dsimp only
    by_cases hv : (b == c || (carriedByValue (.ref b) && carriedByValue (.ref c))) = true
    · exact wp_if_pos hv (wpAny_pure ⟨rfl, rfl, more⟩)
    · refine wp_if_neg hv ?_
      refine wpAny_bind ((nestedKind P w).quiet hk.kind ?_)
      simp only [Bool.not_true, Bool.false_eq_true, if_false]
      refine wpAny_bind ((nestedKind P w).quiet hc.kind ?_)
      simp only [Bool.not_true, Bool.false_eq_true, if_false]
      refine wpAny_bind (of_key k _ 8 s1 hk.1.1 hk.1.2 _ _ _ ?_)
      simp only [Bool.false_eq_true, if_false]
      refine wpAny_bind (of_key l _ 8 s1 hc.1.1 hc.1.2 _ _ _ ?_)
      simp only [Bool.false_eq_true, if_false]
      exact wpAny_pure ⟨rfl, rfl, more⟩
  · obtain ⟨rfl, hr, _⟩ := h
    obtain ⟨r1, r2⟩ := r
    obtain rfl : r1 = none := hr
    exact wpAny_pure q
end
/-! the set at an address -/
/-- an address and the key that lies there -/
abbrev Row := Addr × NestedKey
abbrev hashR (w : World) (p : Row) : Int := p.2.hash w
def ents (w : World) (L : List Row) : List (Int × Value) := L.map fun p => (hashR w p, .ref p.1)
/-- the set at a: its rows L in the order of their slots -/
structure KSet (w : World) (h : Heap) (a : Addr) (L : List Row) (es : Array (Int × Value)) (ep : Nat) (t : SetTable) : Prop where
  ob : ∃ o, h.get? a = some o ∧ o.ExactSet ∧ o.data = .set es ep t
  rows : es.toList = ents w L
  tab : Tb t (L.map (hashR w))
  nd : (L.map (·.2)).Nodup
  plain : t.plain = true
  led : w.params.followText "set-order" = true ∨ t.led = true
  room : L.length * 5 < t.mask * 3
  few : L.length < 4000
section
variable {P : Program} {w : World} {A : Around} {E : Value → Shared → Prop} {s : Shared} {a : Addr} {L : List Row} {es : Array (Int × Value)} {ep : Nat} {t : SetTable} {h : Heap}
theorem KSet.len (R : KSet w h a L es ep t) : es.size = L.length := by
  have e := congrArg List.length R.rows
  rw [ents, List.length_map] at e
  exact e
theorem KSet.fit (R : KSet w h a L es ep t) : t.fits es.size = true := by
  have e1 := R.tab.many
  rw [List.length_map] at e1
  have e2 := R.len
  have e3 := R.room
  have e4 : t.fill = t.place.size + t.dummies.size := rfl
  rw [R.tab.clean] at e4
  have e5 : t.fill = t.place.size := e4
  unfold SetTable.fits
  rw [Bool.and_eq_true, beq_iff_eq, decide_eq_true_eq]
  omega
theorem KSet.at (R : KSet w h a L es ep t) {i : Nat} {p : Row} (e : L[i]? = some p) : es[i]? = some (hashR w p, .ref p.1) := by
  rw [← Array.getElem?_toList, R.rows, ents, List.getElem?_map, e]; rfl
theorem KSet.sound (R : KSet w h a L es ep t) : ¬ t.gaveWay = true := by
  unfold SetTable.gaveWay
  rw [R.tab.msk.odd]; decide
theorem KSet.keep {h' : Heap} (R : KSet w h a L es ep t) (k : ∀ o, h.get? a = some o → h'.get? a = some o) : KSet w h' a L es ep t := by
  obtain ⟨o, e, r⟩ := R.ob
  exact ⟨⟨o, k o e, r⟩, R.rows, R.tab, R.nd, R.plain, R.led, R.room, R.few⟩
abbrev nthW (m : Nat) (h : Int) (c : Nat) : SetTable.Probe := nth m (runAt m (SetTable.bits h % (m + 1)) (SetTable.bits h)) c
theorem nthW_clear (m : Nat) (h : Int) : ∀ c, (nthW m h c).dummy = none
  | 0 => rfl
  | c + 1 => by
    have e := nth_succ m (runAt m (SetTable.bits h % (m + 1)) (SetTable.bits h)) c
    have i := nthW_clear m h c
    show (nth m _ (c + 1)).dummy = none
    rw [e]
    unfold adv
    split <;> exact i
/-- looking for the key k, from the step c of its way on -/
theorem look_from (R : KSet w s.heap a L es ep t) (ok : ∀ p ∈ L, KeyAt s.heap p.2 p.1) {x : Addr} {k : NestedKey} (hx : KeyAt s.heap k x) (hu : A.units + 8 < cLine) {K : Nat} (g : Gap t (k.hash w) K) (near : K < 10 * SetTable.turns t.mask) (ad : Bool) {Q : SetFound → Shared → Prop}
    (yes : ∀ i : Option Nat, k ∈ L.map (·.2) → (ad = false → i.isSome = true) → Q (.there i) s) (no : k ∉ L.map (·.2) → Q (.free (way t.mask (k.hash w) K) false) s) :
    ∀ (f c : Nat) (st : Option SetTable.Probe), st.getD (t.probeStart (k.hash w)) = nthW t.mask (k.hash w) c → c ≤ K → K < f + c →
      (∀ (i : Nat) (p : Row), L[i]? = some p → p.2 = k → ∃ d, c ≤ d ∧ d < K ∧ t.place.toList[i]? = some (way t.mask (k.hash w) d)) → wpAny (model P w) A (setSearchFrom a (.ref x) (k.hash w) ad f st) Q E s
  | 0, c, st, _, h1, h2, _ => absurd h2 (by omega)
  | f + 1, c, st, here, h1, h2, left => by
    obtain ⟨o, ho, hex, hd⟩ := R.ob
    rw [setSearchFrom_succ]
    refine wpAny_bind (wpAny_setState_of ho hd R.fit ?_)
    dsimp only
    refine wp_if_neg R.sound ?_
    try refine wpAny_bind (wpAny_pure ?_)
    have on : ∀ q, nth t.mask (nthW t.mask (k.hash w) c) q = nthW t.mask (k.hash w) (c + q) := fun q => (nth_add t.mask c _ q).symm
    have onj : ∀ q, (nth t.mask (nthW t.mask (k.hash w) c) q).j = way t.mask (k.hash w) (c + q) := fun q => congrArg SetTable.Probe.j (on q)
    have eK : c + (K - c) = K := by omega
    have hashAt : ∀ (i : Nat) (p : Row), L[i]? = some p → (fun i => (es[i]?.map (·.1)).getD 0) i = hashR w p := fun i p e => by
      show (es[i]?.map (·.1)).getD 0 = _
      rw [R.at e]; rfl
    have size : t.place.toList.length = L.length := by
      have := R.tab.many
      rw [List.length_map] at this
      rw [Array.length_toList]; exact this
    rcases go_spec t R.tab.up R.tab.clean (fun i => (es[i]?.map (·.1)).getD 0) (k.hash w) (10 * SetTable.turns t.mask) (K - c) (nthW t.mask (k.hash w) c) (nthW_clear _ _ _) (by omega)
        (fun q hq => by rw [onj]; exact g.2 (c + q) (by omega)) (by rw [onj, eK]; exact g.1) with ⟨q, i, q1, q2, q3, q4, q5⟩ | ⟨q4, q5⟩
    · rw [onj] at q2
      have met : t.probe (fun i => (es[i]?.map (·.1)).getD 0) (k.hash w) (st.getD (t.probeStart (k.hash w))) = some (.candidate (way t.mask (k.hash w) (c + q)) i (nthW t.mask (k.hash w) (c + (q + 1)))) := by
        rw [here, ← onj, ← on]; exact q5
      rw [met]
      dsimp only
      have il : i < L.length := by rw [← size]; exact (List.getElem?_eq_some_iff.mp q2).1
      obtain ⟨p, hp⟩ : ∃ p, L[i]? = some p := ⟨_, List.getElem?_eq_getElem il⟩
      have pm : p ∈ L := List.mem_of_getElem? hp
      have slot : t.slot (way t.mask (k.hash w) (c + q)) = .live i := slot_live R.tab.up q2
      have rest : wpAny (model P w) A (searchRest a (.ref x) (k.hash w) ad f es t (way t.mask (k.hash w) (c + q)) i (nthW t.mask (k.hash w) (c + (q + 1)))) Q E s := by
        unfold searchRest
        rw [R.at hp]
        dsimp only
        refine wpAny_bind (wpAny_holding ((nestedKind P w).eqBool hu (ok p pm).kind hx.kind ?_))
        refine wpAny_bind (wpAny_setState_of ho hd R.fit ?_)
        dsimp only
        have go_on : p.2 ≠ k → wpAny (model P w) A (setSearchFrom a (.ref x) (k.hash w) ad f (some (nthW t.mask (k.hash w) (c + (q + 1))))) Q E s := fun ne => by
          refine look_from R ok hx hu g near ad yes no f (c + (q + 1)) _ rfl (by omega) (by omega) fun i0 p0 e0 k0 => ?_
          obtain ⟨d, d1, d2, d3⟩ := left i0 p0 e0 k0
          refine ⟨d, ?_, d2, d3⟩
          rcases Nat.lt_trichotomy d (c + q) with z | z | z
          · refine absurd ((hashAt i0 p0 e0).trans (congrArg (fun k => NestedKey.hash w k) k0)) (q4 (d - c) i0 (by omega) ?_)
            rw [onj, show c + (d - c) = d by omega]; exact d3
          · rw [z] at d3
            have s0 := slot_live R.tab.up d3
            rw [slot] at s0
            injection s0 with s0
            rw [← s0, hp] at e0
            exact absurd ((congrArg Prod.snd (Option.some.inj e0)).trans k0) ne
          · omega
        by_cases e : p.2 = k
        · have mem : k ∈ L.map (·.2) := List.mem_map.mpr ⟨p, pm, e⟩
          rw [decide_eq_true e]
          cases ad with
          | true => exact wp_if_pos (by decide) (wpAny_pure (yes none mem fun z => nomatch z))
          | false =>
            refine wp_if_neg (by decide) ?_
            try refine wpAny_bind (wpAny_pure ?_)
            rw [sameMem]
            dsimp only
            simp only [if_true, slot, R.at hp]
            refine wpAny_bind (wpAny_isSame_ref_self (wpAny_bind (wpAny_pure ?_)))
            simp only [if_true]
            exact wpAny_pure (yes (some i) mem fun _ => rfl)
        · rw [decide_eq_false e]
          refine wp_if_neg (by cases ad <;> decide) ?_
          try refine wpAny_bind (wpAny_pure ?_)
          rw [sameMem]
          dsimp only
          simp only [if_true, slot, R.at hp]
          refine wpAny_bind (wpAny_isSame_ref_self (wpAny_bind (wpAny_pure ?_)))
          simp only [if_true]
          exact wp_if_neg (by decide) (go_on e)
      by_cases hl : t.led = true
      · refine wp_if_neg (by rw [hl]; decide) ?_
        try refine wpAny_bind (wpAny_pure ?_)
        exact rest
      · refine wp_if_pos (by rw [Bool.eq_false_iff.mpr hl]; rfl) ?_
        refine wpAny_bind (unseen hx (fun y hy => ?_) ?_)
        · obtain ⟨e, e1, e2⟩ := List.mem_map.mp hy
          have e3 : e ∈ es.toList := by
            have : e ∈ es ∧ e.1 = k.hash w := by simpa using e1
            simpa using this.1
          rw [R.rows] at e3
          obtain ⟨p', p1, p2⟩ := List.mem_map.mp e3
          exact ⟨p'.2, p'.1, by rw [← e2, ← p2], ok p' p1⟩
        · refine wp_if_neg (by decide) ?_
          try refine wpAny_bind (wpAny_pure ?_)
          exact rest
    · have met : t.probe (fun i => (es[i]?.map (·.1)).getD 0) (k.hash w) (st.getD (t.probeStart (k.hash w))) = some (.empty (way t.mask (k.hash w) K) none) := by
        have e := onj (K - c)
        rw [eK] at e
        rw [here, ← e]; exact q5
      rw [met]
      dsimp only
      refine wpAny_pure (no fun hm => ?_)
      obtain ⟨p, pm, e⟩ := List.mem_map.mp hm
      obtain ⟨i, hi⟩ := List.getElem?_of_mem pm
      obtain ⟨d, d1, d2, d3⟩ := left i p hi e
      refine q4 (d - c) i (by omega) ?_ ((hashAt i p hi).trans (congrArg (fun k => NestedKey.hash w k) e))
      rw [onj, show c + (d - c) = d by omega]; exact d3
theorem look (R : KSet w s.heap a L es ep t) (ok : ∀ p ∈ L, KeyAt s.heap p.2 p.1) {x : Addr} {k : NestedKey} (hx : KeyAt s.heap k x) (hu : A.units + 8 < cLine) (ad : Bool) {Q : SetFound → Shared → Prop}
    (yes : ∀ i : Option Nat, k ∈ L.map (·.2) → (ad = false → i.isSome = true) → Q (.there i) s) (no : ∀ K, k ∉ L.map (·.2) → Gap t (k.hash w) K → Q (.free (way t.mask (k.hash w) K) false) s) :
    wpAny (model P w) A (setSearch a (.ref x) (k.hash w) ad) Q E s := by
  have few : (L.map (hashR w)).length ≤ t.mask := by have := R.room; rw [List.length_map]; omega
  obtain ⟨K, near, g⟩ := R.tab.gap few (k.hash w)
  have big := R.tab.msk.big
  have turns : SetTable.turns t.mask < 9000 := by unfold SetTable.turns; omega
  unfold setSearch
  refine look_from R ok hx hu g near ad yes (fun z => no K z g) 100000 0 none rfl (Nat.zero_le _) (by omega) fun i p e1 e2 => ?_
  have hi : (L.map (hashR w))[i]? = some (k.hash w) := by
    rw [List.getElem?_map, e1, ← e2]; rfl
  have il : i < t.place.toList.length := by
    have := R.tab.many
    rw [List.length_map] at this
    have := (List.getElem?_eq_some_iff.mp e1).1
    rw [Array.length_toList]; omega
  obtain ⟨c, c1, c2⟩ := R.tab.ahead g hi (List.getElem?_eq_getElem il)
  exact ⟨c, Nat.zero_le _, c1, by rw [List.getElem?_eq_getElem il, c2]⟩
end
/-! put in -/
theorem grow5 : SetTable.sizeAbove (SetTable.grown 5) = 32 := size_20
theorem grow19 : SetTable.sizeAbove (SetTable.grown 19) = 128 := size_76
theorem grow77 : SetTable.sizeAbove (SetTable.grown 77) = 512 := by decide +kernel
theorem grow307 : SetTable.sizeAbove (SetTable.grown 307) = 2048 := by decide +kernel
theorem grow1229 : SetTable.sizeAbove (SetTable.grown 1229) = 8192 := by decide +kernel
section
variable {P : Program} {w : World} {A : Around} {E : Value → Shared → Prop} {s : Shared} {a : Addr} {L : List Row} {es : Array (Int × Value)} {ep : Nat} {t : SetTable} {h : Heap}
theorem order_ents (L : List Row) (es : Array (Int × Value)) (order : Array Nat) (hr : es.toList = ents w L) (hp : order.toList.Perm (List.range L.length)) :
    ∃ L2, (order.filterMap (es[·]?)).toList = ents w L2 ∧ L2.Perm L ∧ L2.map (hashR w) = order.toList.map fun i => (es.map (·.1)).getD i 0 := by
  have at' : ∀ i p, L[i]? = some p → es[i]? = some (hashR w p, Value.ref p.1) := fun i p e => by
    rw [← Array.getElem?_toList, hr, ents, List.getElem?_map, e]; rfl
  have go : ∀ l : List Nat, (∀ i ∈ l, i < L.length) → l.filterMap (fun i => es[i]?) = ents w (l.filterMap fun i => L[i]?) ∧ (l.filterMap fun i => L[i]?).map (hashR w) = l.map fun i => (es.map (·.1)).getD i 0 := by
    intro l
    induction l with
    | nil => exact fun _ => ⟨rfl, rfl⟩
    | cons i l ih =>
      intro all
      have hi := List.getElem?_eq_getElem (all i List.mem_cons_self)
      obtain ⟨e1, e2⟩ := ih fun j hj => all j (List.mem_cons_of_mem _ hj)
      have e3 : (es.map (·.1)).getD i 0 = hashR w (L[i]'(all i List.mem_cons_self)) := by
        rw [Array.getD_eq_getD_getElem?, Array.getElem?_map, at' i _ hi]; rfl
      rw [List.filterMap_cons_some (at' i _ hi), List.filterMap_cons_some hi, e1]
      refine ⟨rfl, ?_⟩
      rw [List.map_cons, List.map_cons, e2, e3]
  have all : ∀ n, n ≤ L.length → (List.range n).filterMap (fun i => L[i]?) = L.take n := by
    intro n
    induction n with
    | zero => exact fun _ => rfl
    | succ n ih =>
      intro hn
      rw [List.range_succ, List.filterMap_append, ih (by omega), List.filterMap_cons_some (List.getElem?_eq_getElem (by omega)), List.take_succ_eq_append_getElem (by omega)]; rfl
  obtain ⟨e1, e2⟩ := go order.toList fun i hi => List.mem_range.mp (hp.mem_iff.mp hi)
  refine ⟨_, by rw [Array.toList_filterMap]; exact e1, ?_, e2⟩
  have e3 := all L.length (Nat.le_refl _)
  rw [List.take_length] at e3
  have e4 := hp.filterMap fun i => L[i]?
  rw [e3] at e4
  exact e4
theorem relay_k {o : Obj} (ho : s.heap.get? a = some o) (hex : o.ExactSet) (hd : o.data = .set es ep t) (hr : es.toList = ents w L) (T : Tb t (L.map (hashR w))) (le : L.length ≤ t.mask) (nd : (L.map (·.2)).Nodup) (pl : t.plain = true)
    (ld : w.params.followText "set-order" = true ∨ t.led = true) (few : L.length < 4000) {wanted M : Nat} (hw : SetTable.sizeAbove wanted = M + 1) (hM : Msk M) (room : L.length * 5 < M * 3) {Q : Unit → Shared → Prop}
    (q : ∀ h' L' es' ep' t', Heap.SameBut a s.heap h' → KSet w h' a L' es' ep' t' → L'.Perm L → Q () { s with heap := h' }) : wpAny (model P w) A (setRelay a wanted) Q E s := by
  have len : es.size = L.length := by
    have e := congrArg List.length hr
    rw [ents, List.length_map] at e
    exact e
  have many := T.many
  rw [List.length_map] at many
  have fit : t.fits es.size = true := by
    have e4 : t.fill = t.place.size + t.dummies.size := rfl
    rw [T.clean] at e4
    have e5 : t.fill = t.place.size := e4
    unfold SetTable.fits
    rw [Bool.and_eq_true, beq_iff_eq, decide_eq_true_eq]
    omega
  have bigM := hM.big
  obtain ⟨t', order, e, hp, T', m', l', p'⟩ := laid_anew t (hs := es.map (·.1)) (wanted := wanted) (M := M) (by omega) hM (by rw [Array.size_map]; omega)
  rw [Array.size_map, len] at hp
  obtain ⟨L2, r1, r2, r3⟩ := order_ents L es order hr hp
  rw [← r3] at T'
  have size : (order.filterMap (es[·]?)).size = es.size := by
    have e := congrArg List.length r1
    rw [ents, List.length_map, r2.length_eq] at e
    rw [len, ← e]; rfl
  have line2 : 10000 ≤ sizeLine := by decide
  rw [setRelay_eq]
  refine wpAny_bind (wpAny_setState_of ho hd fit ?_)
  dsimp only
  refine wp_if_neg (by omega) ?_
  try refine wpAny_bind (wpAny_pure ?_)
  rw [e]
  dsimp only
  refine wpAny_bind ?_
  refine wp_if_neg (by rw [size]; simp) ?_
  try refine wpAny_bind (wpAny_pure ?_)
  refine wpAny_pure ?_
  dsimp only
  refine wpAny_storeSet_of ho hd ?_ (by omega)
  have sb : Heap.SameBut a s.heap (s.heap.update a (Obj.putSet (order.filterMap (es[·]?)) t')) := Heap.SameBut.update ..
  refine q _ L2 _ (ep + 1) t' sb ⟨⟨_, store_at ho hd, ⟨hex.1, hex.2.1, hex.2.2⟩, rfl⟩, r1, T', (r2.map (·.2)).nodup_iff.mpr nd, by rw [p']; exact pl, by rw [l']; exact ld, by rw [r2.length_eq, m']; exact room, by rw [r2.length_eq]; exact few⟩ r2
theorem key_still {h h' : Heap} {k : NestedKey} {a b : Addr} {o : Obj} {es : Array (Int × Value)} {ep : Nat} {t : SetTable} (hb : KeyAt h k b) (ho : h.get? a = some o) (hd : o.data = .set es ep t) (sb : Heap.SameBut a h h') : KeyAt h' k b := by
  refine ⟨⟨NestedIs.at (fun c u vs n e1 e2 => ?_) k _ hb.1.1, hb.1.2⟩, hb.2⟩
  refine (sb.2 c fun z => ?_).trans e1
  subst z
  rw [ho] at e1; cases e1
  rw [hd] at e2; cases e2
/-- how far a full table grows -/
theorem grown_to {m n : Nat} (hm : Msk m) (few : n < 4000) (r1 : n * 5 < m * 3) (r2 : m * 3 ≤ (n + 1) * 5) : ∃ M, SetTable.sizeAbove (SetTable.grown (n + 1)) = M + 1 ∧ Msk M ∧ (n + 1) * 5 < M * 3 := by
  obtain ⟨j, j1, j2, j3, j4⟩ := hm
  have : j = 3 ∨ j = 5 ∨ j = 7 ∨ j = 9 ∨ j = 11 ∨ j = 13 := by omega
  rcases this with e | e | e | e | e | e
  · subst e; obtain rfl : n = 4 := by omega
    exact ⟨31, grow5, ⟨5, by decide, by decide, by decide, by decide⟩, by decide⟩
  · subst e; obtain rfl : n = 18 := by omega
    exact ⟨127, grow19, ⟨7, by decide, by decide, by decide, by decide⟩, by decide⟩
  · subst e; obtain rfl : n = 76 := by omega
    exact ⟨511, grow77, ⟨9, by decide, by decide, by decide, by decide⟩, by decide⟩
  · subst e; obtain rfl : n = 306 := by omega
    exact ⟨2047, grow307, ⟨11, by decide, by decide, by decide, by decide⟩, by decide⟩
  · subst e; obtain rfl : n = 1228 := by omega
    exact ⟨8191, grow1229, ⟨13, by decide, by decide, by decide, by decide⟩, by decide⟩
  · subst e; omega
end
section
variable {P : Program} {w : World} {A : Around} {E : Value → Shared → Prop} {s : Shared} {a : Addr} {L : List Row} {es : Array (Int × Value)} {ep : Nat} {t : SetTable} {h : Heap}
/-- what adding x, the key k, makes of the rows -/
def Added (L : List Row) (x : Addr) (k : NestedKey) (L' : List Row) : Prop := (k ∈ L.map (·.2) ∧ L' = L) ∨ (k ∉ L.map (·.2) ∧ L'.Perm ((x, k) :: L))
theorem add_hashed (R : KSet w s.heap a L es ep t) (ok : ∀ p ∈ L, KeyAt s.heap p.2 p.1) {x : Addr} {k : NestedKey} (hx : KeyAt s.heap k x) (hu : A.units + 8 < cLine) (few : L.length + 1 < 4000) {Q : Bool → Shared → Prop}
    (q : ∀ b h' L' es' ep' t', Heap.SameBut a s.heap h' → KSet w h' a L' es' ep' t' → Added L x k L' → Q b { s with heap := h' }) : wpAny (model P w) A (setAddHashed a (.ref x) (k.hash w)) Q E s := by
  obtain ⟨o, ho, hex, hd⟩ := R.ob
  have len := R.len
  have room := R.room
  unfold setAddHashed
  refine wpAny_holding ?_
  rw [show (100000 : Nat) = 99999 + 1 from rfl, setAddHashedIn_succ]
  refine wpAny_bind (wpAny_setState_of ho hd R.fit ?_)
  dsimp only
  refine wp_if_neg (by simp [byScan, Value.scannable]) ?_
  try refine wpAny_bind (wpAny_pure ?_)
  refine wpAny_bind (look R ok hx hu true (fun i mem _ => ?_) fun K new g => ?_)
  · dsimp only
    exact wpAny_pure (q false s.heap L es ep t (Heap.SameBut.refl a s.heap) R (.inl ⟨mem, rfl⟩))
  · dsimp only
    refine wpAny_bind (wpAny_setState_of ho hd R.fit ?_)
    dsimp only
    generalize ej : way t.mask (k.hash w) K = j
    generalize ep0 : SetTable.below t.place j = p
    obtain ⟨p1, p2, T, fill⟩ := R.tab.put g ej ep0
    have m1 : (t.put j).1.mask = t.mask := rfl
    have l1 : (t.put j).1.led = t.led := rfl
    have n1 : (t.put j).1.plain = t.plain := rfl
    generalize et : t.put j = tp at p2 T fill m1 l1 n1 ⊢
    obtain ⟨t1, p'⟩ := tp
    dsimp only at p2 T fill m1 l1 n1 ⊢
    subst p2
    have pl : t1.plain = true := n1.trans R.plain
    first
      | (refine wpAny_bind ?_; refine wp_if_pos pl ?_; refine by_key k _ 8 s hx.1.1 hx.1.2 hx.2 _ _ _ ?_)
      | refine wp_if_pos pl (wpAny_bind (by_key k _ 8 s hx.1.1 hx.1.2 hx.2 _ _ _ ?_))
    simp only [if_true]
    rw [List.length_map] at p1 fill
    have rows : (SetTable.insertAt es p' (k.hash w, Value.ref x)).toList = ents w (L.take p' ++ (x, k) :: L.drop p') := by
      rw [SetTable.toList_insertAt, R.rows]
      unfold ents
      rw [List.map_append, List.map_cons, List.map_take, List.map_drop]
    have perm := put_perm L p' (x, k)
    have hash1 : (L.take p' ++ (x, k) :: L.drop p').map (hashR w) = (L.map (hashR w)).take p' ++ k.hash w :: (L.map (hashR w)).drop p' := by
      rw [List.map_append, List.map_cons, List.map_take, List.map_drop]
    rw [← hash1] at T
    have len1 : (L.take p' ++ (x, k) :: L.drop p').length = L.length + 1 := perm.length_eq
    have nd1 : ((L.take p' ++ (x, k) :: L.drop p').map (·.2)).Nodup := (perm.map (·.2)).nodup_iff.mpr (List.nodup_cons.mpr ⟨new, R.nd⟩)
    have size1 : (SetTable.insertAt es p' (k.hash w, Value.ref x)).size = L.length + 1 := by
      have e := congrArg List.length rows
      rw [ents, List.length_map, len1] at e
      exact e
    generalize SetTable.insertAt es p' (k.hash w, Value.ref x) = es1 at rows size1 ⊢
    generalize L.take p' ++ (x, k) :: L.drop p' = L1 at perm len1 T nd1 rows
    have line : 10000 ≤ sizeLine := by decide
    refine wpAny_bind (wpAny_storeSet_of ho hd ?_ (by omega))
    have sb : Heap.SameBut a s.heap (s.heap.update a (Obj.putSet es1 t1)) := Heap.SameBut.update ..
    have ho1 := store_at (es' := es1) (t' := t1) ho hd
    generalize s.heap.update a (Obj.putSet es1 t1) = h1 at sb ho1 ⊢
    have led1 : w.params.followText "set-order" = true ∨ t1.led = true := by rw [l1]; exact R.led
    by_cases full : t1.tooFull = true
    · first
        | (refine wpAny_bind ?_; refine wp_if_pos (by simp [full]) ?_)
        | (refine wp_if_pos (by simp [full]) ?_; refine wpAny_bind ?_)
      have full' : t.mask * 3 ≤ (L.length + 1) * 5 := by
        have e := full
        unfold SetTable.tooFull at e
        rw [decide_eq_true_eq, fill, m1] at e
        exact e
      obtain ⟨M, g1, g2, g3⟩ := grown_to R.tab.msk (by omega) room full'
      rw [len]
      refine relay_k (s := { s with heap := h1 }) ho1 ⟨hex.1, hex.2.1, hex.2.2⟩ rfl rows T (by omega) nd1 pl led1 (by omega) g1 g2 (by omega) fun h2 L2 es2 ep2 t2 sb2 R2 perm2 => ?_
      exact wpAny_pure (q true h2 L2 es2 ep2 t2 (sb.trans sb2) R2 (.inr ⟨new, perm2.trans perm⟩))
    · first
        | refine wp_if_neg (by simp [full]) ?_
        | (refine wpAny_bind ?_; refine wp_if_neg (by simp [full]) ?_; refine wpAny_pure ?_)
      have less : (L.length + 1) * 5 < t.mask * 3 := by
        have e := full
        unfold SetTable.tooFull at e
        rw [decide_eq_true_eq, fill, m1] at e
        omega
      exact wpAny_pure (q true h1 L1 es1 (ep + 1) t1 sb ⟨⟨_, ho1, ⟨hex.1, hex.2.1, hex.2.2⟩, rfl⟩, rows, T, nd1, pl, led1, by omega, by omega⟩ (.inr ⟨new, perm⟩))
theorem KSet.ty (R : KSet w s.heap a L es ep t) : s.TypeIs (.ref a) "set" := by
  obtain ⟨o, ho, hx, _⟩ := R.ob
  exact ⟨o, ho, hx.1⟩
/-- seen.add(k) -/
theorem add_call (R : KSet w s.heap a L es ep t) (ok : ∀ p ∈ L, KeyAt s.heap p.2 p.1) {x : Addr} {k : NestedKey} (hx : KeyAt s.heap k x) (hu : A.units + 9 < cLine) (few : L.length + 1 < 4000) {Q : Value → Shared → Prop}
    (q : ∀ h' tk L' es' ep' t', Heap.SameBut a s.heap h' → KSet w h' a L' es' ep' t' → Added L x k L' → Q .none { s with heap := h', toks := tk }) : wpAny (model P w) A (call (.builtin "set.add") [.ref a, .ref x]) Q E s := by
  refine wpAny_call_entry F.slot_set_add R.ty F.entry_set_add ?_ (F.args_set_add_2 _ _)
  unfold Builtin.«set.add» Builtin.Frozenset.oneOther
  simp only [List.isEmpty_nil, bind_assoc]
  unfold Builtin.Frozenset.addrOf setAdd
  refine wpAny_bind (wpAny_pure ?_)
  try dsimp only
  refine wpAny_bind (wpAny_pure ?_)
  try dsimp only
  refine wpAny_bind ?_
  refine wpAny_holding ?_
  have hu1 : A.in1.units + 8 < cLine := by rw [Around.in1_units]; omega
  refine wpAny_bind ((nestedKind P w).pyHash hu1 hx.kind ?_)
  refine add_hashed (s := { s with toks := s.toks + (nestedKind P w).draws k }) R ok hx hu1 few fun b h' L' es' ep' t' sb R' ad => ?_
  show wpAny _ _ (ret Value.none) _ _ _
  exact wpAny_pure ⟨_, rfl, q h' _ L' es' ep' t' sb R' ad⟩
/-- whether k is in the set -/
theorem has_key (R : KSet w s.heap a L es ep t) (ok : ∀ p ∈ L, KeyAt s.heap p.2 p.1) {x : Addr} {k : NestedKey} (hx : KeyAt s.heap k x) (hu : A.units + 8 < cLine) {Q : Bool → Shared → Prop}
    (q : ∀ tk, Q (decide (k ∈ L.map (·.2))) { s with toks := tk }) : wpAny (model P w) A (setContains a (.ref x)) Q E s := by
  obtain ⟨o, ho, hex, hd⟩ := R.ob
  unfold setContains
  refine wpAny_holding ?_
  refine wpAny_bind ((nestedKind P w).pyHash hu hx.kind ?_)
  unfold setFind
  rw [show (100000 : Nat) = 99999 + 1 from rfl]
  unfold setFindIn
  refine wpAny_bind ?_
  refine wpAny_bind (wpAny_setState_of (s := { s with toks := s.toks + (nestedKind P w).draws k }) ho hd R.fit ?_)
  dsimp only
  refine wp_if_neg (by simp [byScan, Value.scannable]) ?_
  try refine wpAny_bind (wpAny_pure ?_)
  refine wpAny_bind (look (s := { s with toks := s.toks + (nestedKind P w).draws k }) R ok hx hu false (fun i mem i1 => ?_) fun K new g => ?_)
  · dsimp only
    refine wpAny_pure (wpAny_pure ?_)
    rw [i1 rfl, ← decide_eq_true mem]
    exact q _
  · dsimp only
    refine wpAny_pure (wpAny_pure ?_)
    rw [Option.isSome_none, ← decide_eq_false new]
    exact q _
end
/-- what lies at a: the set of these rows -/
def KSX (w : World) (a : Addr) (L : List Row) : Heap → Prop := fun h => ∃ es ep t, KSet w h a L es ep t
end Pf

/-! What a piece of a body does to data: an evaluation over a known part of the heap. -/
namespace Pf
open PySem PySem.Spec PyProof.Rows L2

/-! ### heaps -/
theorem newS {H : Hp} {p : Addr} {o : HO} (h : H p = none) : Same H (upd H p o) := fun b x e => by
  rw [upd_ne (ne_of_none e h)]; exact e
theorem sqt {K : PySem.W.Frag} {H H' : Hp} {a : Addr} {xs : List V} (e : Same H H') (h : SqT K H a xs) : SqT K H' a xs := by
  rcases h with (h | ⟨o, h⟩) | h
  · exact .inl (.inl (e _ _ h))
  · exact .inl (.inr ⟨o, e _ _ h⟩)
  · exact .inr h
mutual
theorem dm {K : PySem.W.Frag} {H H' : Hp} (e : Same H H') : ∀ {v : V} {d : PyData}, Dp K H v d → Dp K H' v d
  | _, _, .non => .non
  | _, _, .bl b => .bl b
  | _, _, .int i => .int i
  | _, _, .str x => .str x
  | _, _, .lst a b => .lst (e.seq a) (dms e b)
  | _, _, .tup a b => .tup (sqt e a) (dms e b)
theorem dms {K : PySem.W.Frag} {H H' : Hp} (e : Same H H') : ∀ {vs : List V} {ds : List PyData}, DpAll K H vs ds → DpAll K H' vs ds
  | _, _, .nil => .nil
  | _, _, .cons a b => .cons (dm e a) (dms e b)
end
section
variable {K : PySem.W.Frag} {H : Hp}
theorem dpa_len : ∀ {vs : List V} {ds : List PyData}, DpAll K H vs ds → vs.length = ds.length
  | _, _, .nil => rfl
  | _, _, .cons _ b => congrArg Nat.succ (dpa_len b)
theorem dpa_get : ∀ {vs : List V} {ds : List PyData} {i : Nat} {v : V}, DpAll K H vs ds → vs[i]? = some v → ∃ d, ds[i]? = some d ∧ Dp K H v d
  | _, _, _, _, .nil, e => by simp at e
  | _, _, 0, _, .cons a _, e => by simp at e; subst e; exact ⟨_, rfl, a⟩
  | _, _, i + 1, v, .cons _ b, e => dpa_get (i := i) (v := v) b (by simpa using e)
theorem dpa_at : ∀ {vs : List V} {ds : List PyData} {i : Nat} {d : PyData}, DpAll K H vs ds → ds[i]? = some d → ∃ v, vs[i]? = some v ∧ Dp K H v d
  | _, _, _, _, .nil, e => by simp at e
  | _, _, 0, _, .cons a _, e => by simp at e; subst e; exact ⟨_, rfl, a⟩
  | _, _, i + 1, d, .cons _ b, e => dpa_at (i := i) (d := d) b (by simpa using e)
theorem dpa_app : ∀ {vs ws : List V} {ds es : List PyData}, DpAll K H vs ds → DpAll K H ws es → DpAll K H (vs ++ ws) (ds ++ es)
  | _, _, _, _, .nil, s => s
  | _, _, _, _, .cons a b, s => .cons a (dpa_app b s)
theorem dpa_drop : ∀ {vs : List V} {ds : List PyData} (n : Nat), DpAll K H vs ds → DpAll K H (vs.drop n) (ds.drop n)
  | _, _, 0, r => r
  | _, _, _ + 1, .nil => .nil
  | _, _, n + 1, .cons _ b => dpa_drop n b
theorem dpa_take : ∀ {vs : List V} {ds : List PyData} (n : Nat), DpAll K H vs ds → DpAll K H (vs.take n) (ds.take n)
  | _, _, 0, _ => .nil
  | _, _, _ + 1, .nil => .nil
  | _, _, n + 1, .cons a b => .cons a (dpa_take n b)
theorem dpa_ints : ∀ {ns : List Int} {vs : List V}, DpAll K H vs (ns.map PyData.int) → vs = ns.map V.int
  | [], _, h => by cases h; rfl
  | n :: r, _, h => by
    cases h with
    | cons a b => cases a; rw [dpa_ints b]; rfl
theorem dpa_of_ints : ∀ (ns : List Int), DpAll K H (ns.map V.int) (ns.map PyData.int)
  | [] => .nil
  | n :: r => .cons (.int n) (dpa_of_ints r)
theorem dp_list {a : Addr} {xs : List V} {ds : List PyData} (h : H a = some (.lst xs)) (d : DpAll K H xs ds) : Dp K H (.ref a) (.list ds) := .lst (.inl (.inl h)) d
end

/-- from what is known (H) and what stands (H1), to the same behind a step: W, what may be written -/
structure Fr (W : Addr → Prop) (H H1 G H2 : Hp) : Prop where
  g : Same H G
  r : Same G H2
  s : ∀ p o, ¬ W p → H1 p = some o → H2 p = some o
  n : ∀ p, ¬ W p → H p = none → H1 p ≠ none → G p = none
  m : ∀ p, H2 p = none → H1 p = none
abbrev Fr0 : Hp → Hp → Hp → Hp → Prop := Fr fun _ => False
theorem Fr.refl {W : Addr → Prop} {H H1 : Hp} (e : Same H H1) : Fr W H H1 H H1 := ⟨Same.refl _, e, fun _ _ _ h => h, fun _ _ h _ => h, fun _ h => h⟩
theorem Fr.trans {W W' : Addr → Prop} {H H1 G H2 G' H3 : Hp} (a : Fr W H H1 G H2) (b : Fr W' G H2 G' H3) (w : ∀ p, W' p → W p ∨ H1 p = none) : Fr W H H1 G' H3 := by
  refine ⟨a.g.trans b.g, b.r, fun p o hw h => ?_, fun p hw h1 h2 => ?_, fun p h => a.m p (b.m p h)⟩
  · refine b.s p o (fun z => ?_) (a.s p o hw h)
    rcases w p z with z | z
    · exact hw z
    · rw [z] at h; cases h
  · have g0 := a.n p hw h1 h2
    refine b.n p (fun z => ?_) g0 ?_
    · rcases w p z with z | z
      · exact hw z
      · exact h2 z
    · cases e : H1 p with
      | none => exact absurd e h2
      | some o => rw [a.s p o hw e]; exact fun z => nomatch z
theorem Fr.mono {W W' : Addr → Prop} {H H1 G H2 : Hp} (a : Fr W H H1 G H2) (w : ∀ p, W p → W' p) : Fr W' H H1 G H2 :=
  ⟨a.g, a.r, fun p o h => a.s p o fun z => h (w p z), fun p h => a.n p fun z => h (w p z), a.m⟩
theorem Fr.tr0 {W : Addr → Prop} {H H1 G H2 G' H3 : Hp} (a : Fr W H H1 G H2) (b : Fr0 G H2 G' H3) : Fr W H H1 G' H3 := a.trans b fun _ z => z.elim
theorem Fr.a {H H1 G H2 : Hp} (f : Fr0 H H1 G H2) : Same H1 H2 := fun p o h => f.s p o (fun z => z) h
theorem upd_none {H : Hp} {p b : Addr} {o : HO} (h : upd H p o b = none) : H b = none := by
  by_cases c : b = p
  · subst c; rw [upd_same] at h; cases h
  · rw [upd_ne c] at h; exact h
/-- a new object, known from now on -/
theorem Fr.new {W : Addr → Prop} {H H1 : Hp} {p : Addr} {o : HO} (e : Same H H1) (hp : H1 p = none) : Fr W H H1 (upd H p o) (upd H1 p o) := by
  have hH : H p = none := e.free hp
  refine ⟨newS hH, fun b x h => ?_, fun b x _ h => newS hp b x h, fun b _ h1 h2 => ?_, fun b h => upd_none h⟩
  · by_cases c : b = p
    · subst c; rw [upd_same] at h ⊢; exact h
    · rw [upd_ne c] at h ⊢; exact e b x h
  · have c : b ≠ p := fun z => h2 (by rw [z]; exact hp)
    rw [upd_ne c]; exact h1
/-- a new object, not known -/
theorem Fr.hid {W : Addr → Prop} {H H1 : Hp} {p : Addr} {o : HO} (e : Same H H1) (hp : H1 p = none) : Fr W H H1 H (upd H1 p o) :=
  ⟨Same.refl _, fun b x h => newS hp b x (e b x h), fun b x _ h => newS hp b x h, fun b _ h1 _ => h1, fun b h => upd_none h⟩

/-- the tuple at a is the key k -/
def KeyIn (K : PySem.W.Frag) (H : Hp) (a : Addr) (k : NestedKey) : Prop := Dp K H (.ref a) k.data ∧ k.depth ≤ 8
theorem KeyIn.mono {K : PySem.W.Frag} {H H' : Hp} {a : Addr} {k : NestedKey} (e : Same H H') (h : KeyIn K H a k) : KeyIn K H' a k := ⟨dm e h.1, h.2⟩
abbrev Ent := NestedKey × Addr × Value
/-- what the dict at D is -/
def DX (P : Program) (w : World) (D : Addr) (xs : List Ent) : Heap → Prop := fun h => (D == sysModules) = false ∧ ∃ o es ep, h.get? D = some o ∧ o.ExactDict ∧ o.data = .dict es ep ∧ es.toList = xs.map (entryOfKey (nestedKind P w)) ∧ (xs.map (·.1)).Nodup
/-- a dict, at D, free to change or held as it is -/
def DAt (P : Program) (w : World) (H : Hp) (D : Addr) (xs : List Ent) : Prop := H D = some (.ext (DX P w D xs)) ∨ ∃ o, H D = some (.frz o (.ext (DX P w D xs)))
/-- as data; a list stands by itself -/
def Dv (K : PySem.W.Frag) (H : Hp) (v : V) (d : PyData) : Prop := Dp K H v d ∧ ∀ ds, d = .list ds → ∃ p vs, v = .ref p ∧ H p = some (.lst vs) ∧ DpAll K H vs ds
theorem Dv.mono {K : PySem.W.Frag} {H H' : Hp} {v : V} {d : PyData} (e : Same H H') (h : Dv K H v d) : Dv K H' v d := ⟨dm e h.1, fun ds q => by
  obtain ⟨p, vs, a, b, c⟩ := h.2 ds q
  exact ⟨p, vs, a, e _ _ b, dms e c⟩⟩
/-- the entries as data -/
inductive KvOk (K : PySem.W.Frag) (H : Hp) : List Ent → List (NestedKey × PyData) → Prop where
  | nil : KvOk K H [] []
  | cons {k : NestedKey} {a : Addr} {u : Value} {v : V} {d : PyData} {xs : List Ent} {kvs : List (NestedKey × PyData)} : KeyIn K H a k → L2.RelV v u → Dv K H v d → KvOk K H xs kvs → KvOk K H ((k, a, u) :: xs) ((k, d) :: kvs)
theorem KvOk.mono {K : PySem.W.Frag} {H H' : Hp} (e : Same H H') : ∀ {xs : List Ent} {kvs : List (NestedKey × PyData)}, KvOk K H xs kvs → KvOk K H' xs kvs
  | _, _, .nil => .nil
  | _, _, .cons a b c d => .cons (a.mono e) b (c.mono e) (d.mono e)
/-- the rows of a set, as keys -/
def StOk (K : PySem.W.Frag) (H : Hp) (L : List Row) (ks : List NestedKey) : Prop := (∀ p ∈ L, KeyIn K H p.1 p.2 ∧ nk p.2 = true) ∧ (L.map (·.2)).Perm ks
theorem StOk.mono {K : PySem.W.Frag} {H H' : Hp} {L : List Row} {ks : List NestedKey} (e : Same H H') (h : StOk K H L ks) : StOk K H' L ks := ⟨fun p hp => ⟨(h.1 p hp).1.mono e, (h.1 p hp).2⟩, h.2⟩
/-! ### slots -/
inductive SV where
  /-- nothing is known -/
  | no
  /-- data that stays -/
  | dat (d : PyData)
  /-- a list of one's own, that may change -/
  | own (xs : List PyData)
  /-- an object of one's own -/
  | obj (o : HO)
  /-- this value -/
  | raw (v : V)
  /-- this value, as data -/
  | rd (v : V) (d : PyData)
  /-- a tuple of these values -/
  | tupv (vs : List V)
  /-- a dict of one's own; one that is held as it is -/
  | dct (P : Program) (w : World) (kvs : List (NestedKey × PyData))
  | dcf (P : Program) (w : World) (kvs : List (NestedKey × PyData))
  /-- a tuple of a whole number and two lists that stay as they are -/
  | kep (n : Int) (xs ys : List PyData)
  /-- a tuple of a text, a list that stands by itself, data -/
  | kpg (k : Str) (xs rs : List PyData)
  /-- a list that stands by itself, known -/
  | kl (xs : List PyData)
  /-- a set of keys of one's own -/
  | stk (w : World) (ks : List NestedKey)
  /-- a list of one's own, there -/
  | ownA (l : Addr) (xs : List PyData)
def OkS (K : PySem.W.Frag) (H H1 : Hp) (ov : Option V) : SV → Prop
  | .no => True
  | .dat d => ∃ v, ov = some v ∧ Dp K H v d
  | .own xs => ∃ l vs, ov = some (.ref l) ∧ H l = none ∧ H1 l = some (.lst vs) ∧ DpAll K H vs xs
  | .obj o => ∃ l, ov = some (.ref l) ∧ H l = none ∧ H1 l = some o
  | .raw v => ov = some v
  | .rd v d => ov = some v ∧ Dp K H v d
  | .tupv vs => ∃ t, ov = some (.ref t) ∧ SqT K H t vs
  | .dct P w kvs => ∃ l xs, ov = some (.ref l) ∧ H l = none ∧ H1 l = some (.ext (DX P w l xs)) ∧ KvOk K H xs kvs
  | .dcf P w kvs => ∃ l o xs, ov = some (.ref l) ∧ H l = some (.frz o (.ext (DX P w l xs))) ∧ KvOk K H xs kvs
  | .kl xs => ∃ a vs, ov = some (.ref a) ∧ H a = some (.lst vs) ∧ DpAll K H vs xs
  | .kpg k xs rs => ∃ t a vs us, ov = some (.ref t) ∧ SqT K H t (.str k :: .ref a :: us) ∧ H a = some (.lst vs) ∧ DpAll K H vs xs ∧ DpAll K H us rs
  | .kep n xs ys => ∃ t a b vs ws, ov = some (.ref t) ∧ SqT K H t [.int n, .ref a, .ref b] ∧ H a = some (.lst vs) ∧ DpAll K H vs xs ∧ H b = some (.lst ws) ∧ DpAll K H ws ys
  | .stk w ks => ∃ l L, ov = some (.ref l) ∧ H l = none ∧ H1 l = some (.ext (KSX w l L)) ∧ StOk K H L ks
  | .ownA l xs => ov = some (.ref l) ∧ ∃ vs, H l = none ∧ H1 l = some (.lst vs) ∧ DpAll K H vs xs
def SV.isOwn : SV → Bool
  | .own _ => true
  | .obj _ => true
  | .ownA _ _ => true
  | .dct _ _ _ => true
  | .stk _ _ => true
  | _ => false
/-- what the slots own -/
def Ow (σ : L2.St) (env : List SV) : Addr → Prop := fun l => ∃ (i : Nat) (s : SV), env[i]? = some s ∧ s.isOwn = true ∧ σ[i]? = some (some (.ref l))
structure Stt (K : PySem.W.Frag) (H H1 : Hp) (σ : L2.St) (env : List SV) : Prop where
  e : Same H H1
  l : σ.length = env.length
  ok : ∀ (i : Nat) (o : Option V) (s : SV), σ[i]? = some o → env[i]? = some s → OkS K H H1 o s
  ne : ∀ (i j : Nat) (s t : SV) (l : Addr), i ≠ j → env[i]? = some s → env[j]? = some t → s.isOwn = true → t.isOwn = true → σ[i]? = some (some (.ref l)) → σ[j]? ≠ some (some (.ref l))
section
variable {K : PySem.W.Frag} {H H1 G H2 : Hp} {σ : L2.St} {env : List SV}
theorem OkS.mono {o : Option V} {s : SV} (h : OkS K H H1 o s) (f : Fr0 H H1 G H2) : OkS K G H2 o s := by
  cases s with
  | no => trivial
  | dat d => obtain ⟨v, a, b⟩ := h; exact ⟨v, a, dm f.g b⟩
  | own xs =>
    obtain ⟨l, vs, a, b, c, d⟩ := h
    exact ⟨l, vs, a, f.n l (fun z => z) b (by rw [c]; exact fun z => nomatch z), f.a _ _ c, dms f.g d⟩
  | obj x =>
    obtain ⟨l, a, b, c⟩ := h
    exact ⟨l, a, f.n l (fun z => z) b (by rw [c]; exact fun z => nomatch z), f.a _ _ c⟩
  | raw v => exact h
  | dct P w kvs =>
    obtain ⟨l, xs, a, b, c, d⟩ := h
    exact ⟨l, xs, a, f.n l (fun z => z) b (by rw [c]; exact fun z => nomatch z), f.a _ _ c, d.mono f.g⟩
  | stk w ks =>
    obtain ⟨l, L, a, b, c, d⟩ := h
    exact ⟨l, L, a, f.n l (fun z => z) b (by rw [c]; exact fun z => nomatch z), f.a _ _ c, d.mono f.g⟩
  | dcf P w kvs => obtain ⟨l, o, xs, a, b, c⟩ := h; exact ⟨l, o, xs, a, f.g _ _ b, c.mono f.g⟩
  | kl xs => obtain ⟨a, vs, e0, e1, e2⟩ := h; exact ⟨a, vs, e0, f.g _ _ e1, dms f.g e2⟩
  | kpg k xs rs => obtain ⟨t, a, vs, us, e0, e1, e2, e3, e4⟩ := h; exact ⟨t, a, vs, us, e0, sqt f.g e1, f.g _ _ e2, dms f.g e3, dms f.g e4⟩
  | kep n xs ys => obtain ⟨t, a, b, vs, ws, e0, e1, e2, e3, e4, e5⟩ := h; exact ⟨t, a, b, vs, ws, e0, sqt f.g e1, f.g _ _ e2, dms f.g e3, f.g _ _ e4, dms f.g e5⟩
  | rd v d => exact ⟨h.1, dm f.g h.2⟩
  | tupv vs => obtain ⟨t, a, b⟩ := h; exact ⟨t, a, sqt f.g b⟩
  | ownA l xs =>
    obtain ⟨a, vs, b, c, d⟩ := h
    exact ⟨a, vs, f.n l (fun z => z) b (by rw [c]; exact fun z => nomatch z), f.a _ _ c, dms f.g d⟩
theorem Stt.mono (h : Stt K H H1 σ env) (f : Fr0 H H1 G H2) : Stt K G H2 σ env :=
  ⟨f.r, h.l, fun i o s a b => (h.ok i o s a b).mono f, h.ne⟩
theorem Stt.get (h : Stt K H H1 σ env) {i : Nat} {s : SV} (e : env[i]? = some s) : ∃ o, σ[i]? = some o ∧ OkS K H H1 o s := by
  have hi : i < env.length := (List.getElem?_eq_some_iff.mp e).1
  rw [← h.l] at hi
  exact ⟨σ[i], List.getElem?_eq_getElem hi, h.ok i _ s (List.getElem?_eq_getElem hi) e⟩
theorem Stt.dat (h : Stt K H H1 σ env) {i : Nat} {d : PyData} (e : env[i]? = some (.dat d)) : ∃ v, σ[i]? = some (some v) ∧ Dp K H v d := by
  obtain ⟨o, a, v, rfl, b⟩ := h.get e
  exact ⟨v, a, b⟩
theorem Stt.own (h : Stt K H H1 σ env) {i : Nat} {xs : List PyData} (e : env[i]? = some (.own xs)) : ∃ l vs, σ[i]? = some (some (.ref l)) ∧ H l = none ∧ H1 l = some (.lst vs) ∧ DpAll K H vs xs := by
  obtain ⟨o, a, l, vs, rfl, b⟩ := h.get e
  exact ⟨l, vs, a, b⟩
/-- a slot takes data -/
theorem Stt.setD (h : Stt K H H1 σ env) {i : Nat} {v : V} {d : PyData} (hd : Dp K H v d) : Stt K H H1 (σ.set i (some v)) (env.set i (.dat d)) := by
  refine ⟨h.e, by rw [List.length_set, List.length_set]; exact h.l, fun j o s a b => ?_, fun j k s t l hjk b1 b2 o1 o2 a1 => ?_⟩
  · by_cases c : i = j
    · subst c
      have hi : i < σ.length := by have := (List.getElem?_eq_some_iff.mp a).1; rwa [List.length_set] at this
      have hi' : i < env.length := by rw [← h.l]; exact hi
      rw [List.getElem?_set_self hi] at a
      rw [List.getElem?_set_self hi'] at b
      cases a; cases b
      exact ⟨v, rfl, hd⟩
    · rw [List.getElem?_set_ne c] at a b
      exact h.ok j o s a b
  · have c1 : i ≠ j := fun c => by
      subst c
      have hi' : i < env.length := by have := (List.getElem?_eq_some_iff.mp b1).1; rwa [List.length_set] at this
      rw [List.getElem?_set_self hi'] at b1
      cases b1; cases o1
    have c2 : i ≠ k := fun c => by
      subst c
      have hi' : i < env.length := by have := (List.getElem?_eq_some_iff.mp b2).1; rwa [List.length_set] at this
      rw [List.getElem?_set_self hi'] at b2
      cases b2; cases o2
    rw [List.getElem?_set_ne c1] at a1 b1
    rw [List.getElem?_set_ne c2] at b2 ⊢
    exact h.ne j k s t l hjk b1 b2 o1 o2 a1
/-- an object that no slot owns and that is not known is given to a slot -/
theorem Stt.setO (h : Stt K H H1 σ env) {i : Nat} {p : Addr} {s₀ : SV} (ho : OkS K H H1 (some (.ref p)) s₀) (hw : ∀ (j : Nat) s, env[j]? = some s → s.isOwn = true → j ≠ i → σ[j]? ≠ some (some (.ref p))) : Stt K H H1 (σ.set i (some (.ref p))) (env.set i s₀) := by
  refine ⟨h.e, by rw [List.length_set, List.length_set]; exact h.l, fun j o s a b => ?_, fun j k s t l hjk b1 b2 o1 o2 a1 => ?_⟩
  · by_cases c : i = j
    · subst c
      have hi : i < σ.length := by have := (List.getElem?_eq_some_iff.mp a).1; rwa [List.length_set] at this
      have hi' : i < env.length := by rw [← h.l]; exact hi
      rw [List.getElem?_set_self hi] at a
      rw [List.getElem?_set_self hi'] at b
      cases a; cases b
      exact ho
    · rw [List.getElem?_set_ne c] at a b
      exact h.ok j o s a b
  · by_cases c1 : i = j
    · subst c1
      have hi : i < σ.length := by have := (List.getElem?_eq_some_iff.mp a1).1; rwa [List.length_set] at this
      rw [List.getElem?_set_self hi] at a1
      cases a1
      rw [List.getElem?_set_ne hjk] at b2 ⊢
      exact hw k t b2 o2 (Ne.symm hjk)
    · rw [List.getElem?_set_ne c1] at a1 b1
      by_cases c2 : i = k
      · subst c2
        intro z
        have hi : i < σ.length := by have := (List.getElem?_eq_some_iff.mp z).1; rwa [List.length_set] at this
        rw [List.getElem?_set_self hi] at z
        cases z
        exact hw j s b1 o1 hjk a1
      · rw [List.getElem?_set_ne c2] at b2 ⊢
        exact h.ne j k s t l hjk b1 b2 o1 o2 a1
theorem Stt.owned (h : Stt K H H1 σ env) {l : Addr} (w : Ow σ env l) : H l = none ∧ H1 l ≠ none := by
  obtain ⟨i, s, a, b, c⟩ := w
  have ok := h.ok i _ s c a
  cases s with
  | no => cases b
  | dat d => cases b
  | own xs => obtain ⟨l', vs, e, h1, h2, _⟩ := ok; cases e; exact ⟨h1, by rw [h2]; exact fun z => nomatch z⟩
  | obj o => obtain ⟨l', e, h1, h2⟩ := ok; cases e; exact ⟨h1, by rw [h2]; exact fun z => nomatch z⟩
  | raw v => cases b
  | dct P w kvs => obtain ⟨l', xs, e, h1, h2, _⟩ := ok; cases e; exact ⟨h1, by rw [h2]; exact fun z => nomatch z⟩
  | stk w ks => obtain ⟨l', L, e, h1, h2, _⟩ := ok; cases e; exact ⟨h1, by rw [h2]; exact fun z => nomatch z⟩
  | dcf P w kvs => cases b
  | kl xs => cases b
  | kpg k xs rs => cases b
  | kep n xs ys => cases b
  | rd v d => cases b
  | tupv vs => cases b
  | ownA l' xs => obtain ⟨e, vs, h1, h2, _⟩ := ok; cases e; exact ⟨h1, by rw [h2]; exact fun z => nomatch z⟩
/-- a new object is given to a slot -/
theorem Stt.setN (h : Stt K H H1 σ env) {i : Nat} {p : Addr} {xs : List PyData} {vs : List V} (f : Fr0 H H1 G H2) (hp : H1 p = none) (hg : G p = none) (h2 : H2 p = some (.lst vs)) (hd : DpAll K G vs xs) :
    Stt K G H2 (σ.set i (some (.ref p))) (env.set i (.own xs)) :=
  (h.mono f).setO ⟨p, vs, rfl, hg, h2, hd⟩ fun j s a b _ z => (h.owned ⟨j, s, a, b, z⟩).2 hp
theorem Ow.set {i : Nat} {s₀ : SV} {v : Option V} {l : Addr} (w : Ow (σ.set i v) (env.set i s₀) l) : Ow σ env l ∨ (s₀.isOwn = true ∧ v = some (.ref l)) := by
  obtain ⟨j, s, a, b, c⟩ := w
  by_cases e : i = j
  · subst e
    have hi : i < σ.length := by have := (List.getElem?_eq_some_iff.mp c).1; rwa [List.length_set] at this
    have hi' : i < env.length := by have := (List.getElem?_eq_some_iff.mp a).1; rwa [List.length_set] at this
    rw [List.getElem?_set_self hi] at c
    rw [List.getElem?_set_self hi'] at a
    cases a; cases c
    exact .inr ⟨b, rfl⟩
  · rw [List.getElem?_set_ne e] at a c
    exact .inl ⟨j, s, a, b, c⟩
end
end Pf

namespace Pf
open PySem PySem.Spec PyProof.Rows L2

/-! ### expressions -/
/-- te gives the data d -/
def Ev (K : PySem.W.Frag) (te : TE) (env : List SV) (d : PyData) : Prop := ∀ σ H H1, Stt K H H1 σ env → ∀ Q : VK, (∀ v G H2, Fr0 H H1 G H2 → Dp K G v d → Q v H2) → te σ H1 Q
/-- te gives a new list -/
def EvO (K : PySem.W.Frag) (te : TE) (env : List SV) (xs : List PyData) : Prop := ∀ σ H H1, Stt K H H1 σ env → ∀ Q : VK, (∀ p vs G H2, Fr0 H H1 G H2 → H1 p = none → G p = none → H2 p = some (.lst vs) → DpAll K G vs xs → Q (.ref p) H2) → te σ H1 Q
/-- te gives a list that stands (new, or one's own) -/
def EvL (K : PySem.W.Frag) (te : TE) (env : List SV) (xs : List PyData) : Prop := ∀ σ H H1, Stt K H H1 σ env → ∀ Q : VK, (∀ p vs G H2, Fr0 H H1 G H2 → H2 p = some (.lst vs) → DpAll K G vs xs → Q (.ref p) H2) → te σ H1 Q
def EvT (K : PySem.W.Frag) (tt : TT) (env : List SV) (b : Bool) : Prop := ∀ σ H H1, Stt K H H1 σ env → ∀ Q : Bool → Hp → Prop, (∀ G H2, Fr0 H H1 G H2 → Q b H2) → tt σ H1 Q
def EvA (K : PySem.W.Frag) (ta : TA) (env : List SV) (ds : List PyData) : Prop := ∀ σ H H1, Stt K H H1 σ env → ∀ Q : List V → Hp → Prop, (∀ vs G H2, Fr0 H H1 G H2 → DpAll K G vs ds → Q vs H2) → ta σ H1 Q
def EvP (K : PySem.W.Frag) (to : TO) (env : List SV) (o : Option Int) : Prop := ∀ σ H H1, Stt K H H1 σ env → ∀ Q : Option Int → Hp → Prop, (∀ G H2, Fr0 H H1 G H2 → Q o H2) → to σ H1 Q
/-- flat data as a value -/
def fv : PyData → Option V
  | .none => some .non
  | .bool b => some (.bl b)
  | .int i => some (.int i)
  | .str x => some (.str x)
  | _ => none
def vd : V → Option PyData
  | .non => some .none
  | .bl b => some (.bool b)
  | .int i => some (.int i)
  | .str x => some (.str x)
  | _ => none
section
variable {K : PySem.W.Frag} {env : List SV} {ta tb tc te : TE} {t u : TT} {d e : PyData} {i j : Int} {H H1 G H2 : Hp} {xs ys ds : List PyData}
theorem dp_fv {d : PyData} {v w : V} (h : fv d = some w) (k : Dp K H v d) : v = w := by
  cases k <;> first
    | exact Option.some.inj h
    | cases h
theorem vd_dp {v : V} {d : PyData} (h : vd v = some d) : Dp K H v d := by
  cases v <;> first
    | (cases h; exact Dp.non)
    | (cases h; exact Dp.bl _)
    | (cases h; exact Dp.int _)
    | (cases h; exact Dp.str _)
    | cases h
theorem Ev.is (h : Ev K te env d) (q : d = e) : Ev K te env e := q ▸ h
theorem EvT.is {b c : Bool} (h : EvT K t env b) (q : b = c) : EvT K t env c := q ▸ h
theorem EvO.is (h : EvO K te env xs) (q : xs = ys) : EvO K te env ys := q ▸ h
theorem ev_var {i : Nat} (h : env[i]? = some (.dat d)) : Ev K (tVar i) env d := fun σ H H1 st Q q => by
  obtain ⟨v, a, b⟩ := st.dat h
  exact ⟨v, a, q v H H1 (Fr.refl st.e) b⟩
theorem ev_c {v : V} (h : vd v = some d) : Ev K (tC v) env d := fun σ H H1 st Q q => q v H H1 (Fr.refl st.e) (vd_dp h)
theorem ev_op {r : R2} (ha : Ev K ta env d) (hb : Ev K tb env e) {f : PyData} (hr : ∀ x y H H1 (Q : VK), Same H H1 → Dp K H x d → Dp K H y e → (∀ v G H2, Fr0 H H1 G H2 → Dp K G v f → Q v H2) → r x y H1 Q) : Ev K (tOp r ta tb) env f := fun σ H H1 st Q q =>
  ha σ H H1 st _ fun x G1 H2 f1 d1 => hb σ G1 H2 (st.mono f1) _ fun y G2 H3 f2 d2 => hr x y G2 H3 _ f2.r (dm f2.g d1) d2 fun v G3 H4 f3 d3 => q v G3 H4 ((f1.tr0 f2).tr0 f3) d3
theorem ev_un {r : V → Hp → VK → Prop} (ha : Ev K ta env d) {f : PyData} (hr : ∀ x H H1 (Q : VK), Same H H1 → Dp K H x d → (∀ v G H2, Fr0 H H1 G H2 → Dp K G v f → Q v H2) → r x H1 Q) : Ev K (tUn r ta) env f := fun σ H H1 st Q q =>
  ha σ H H1 st _ fun x G1 H2 f1 d1 => hr x G1 H2 _ f1.r d1 fun v G3 H4 f3 d3 => q v G3 H4 (f1.tr0 f3) d3
theorem ev_I0 {g : Int → Int → V} (ha : Ev K ta env (.int i)) (hb : Ev K tb env (.int j)) (hd : vd (g i j) = some d) : Ev K (tOp (rI0 g) ta tb) env d :=
  ev_op ha hb fun x y H H1 Q s d1 d2 q => by
    cases d1; cases d2
    exact ⟨i, j, rfl, rfl, q _ H H1 (Fr.refl s) (vd_dp hd)⟩
theorem ev_I {C : Int → Int → Prop} {g : Int → Int → V} (ha : Ev K ta env (.int i)) (hb : Ev K tb env (.int j)) (hc : C i j) (hd : vd (g i j) = some d) : Ev K (tOp (rI C g) ta tb) env d :=
  ev_op ha hb fun x y H H1 Q s d1 d2 q => by
    cases d1; cases d2
    exact ⟨i, j, rfl, rfl, hc, q _ H H1 (Fr.refl s) (vd_dp hd)⟩
theorem ev_U {g : Int → V} (ha : Ev K ta env (.int i)) (hd : vd (g i) = some d) : Ev K (tUn (rU g) ta) env d :=
  ev_un ha fun x H H1 Q s d1 q => by
    cases d1
    exact ⟨i, rfl, q _ H H1 (Fr.refl s) (vd_dp hd)⟩
theorem ev_eq {v w : V} (ha : Ev K ta env d) (hb : Ev K tb env e) (hv : fv d = some v) (hw : fv e = some w) (hs : scal v w = true) : Ev K (tOp rEq ta tb) env (.bool (decide (v = w))) :=
  ev_op ha hb fun x y H H1 Q s d1 d2 q => by
    cases dp_fv hv d1; cases dp_fv hw d2
    exact ⟨hs, q _ H H1 (Fr.refl s) (.bl _)⟩
theorem ev_ne {v w : V} (ha : Ev K ta env d) (hb : Ev K tb env e) (hv : fv d = some v) (hw : fv e = some w) (hs : scal v w = true) : Ev K (tOp rNe ta tb) env (.bool (!decide (v = w))) :=
  ev_op ha hb fun x y H H1 Q s d1 d2 q => by
    cases dp_fv hv d1; cases dp_fv hw d2
    exact ⟨hs, q _ H H1 (Fr.refl s) (.bl _)⟩
theorem dec_i (i j : Int) : decide (V.int i = V.int j) = decide (i = j) := by
  by_cases h : i = j
  · subst h; simp
  · rw [decide_eq_false h, decide_eq_false fun z => h (V.int.inj z)]
theorem dec_s (i j : Str) : decide (V.str i = V.str j) = decide (i = j) := by
  by_cases h : i = j
  · subst h; simp
  · rw [decide_eq_false h, decide_eq_false fun z => h (V.str.inj z)]
theorem dec_b (i j : Bool) : decide (V.bl i = V.bl j) = decide (i = j) := by
  by_cases h : i = j
  · subst h; simp
  · rw [decide_eq_false h, decide_eq_false fun z => h (V.bl.inj z)]
theorem ev_eqI (ha : Ev K ta env (.int i)) (hb : Ev K tb env (.int j)) : Ev K (tOp rEq ta tb) env (.bool (decide (i = j))) := (ev_eq ha hb rfl rfl rfl).is (by rw [dec_i])
theorem ev_neI (ha : Ev K ta env (.int i)) (hb : Ev K tb env (.int j)) : Ev K (tOp rNe ta tb) env (.bool (!decide (i = j))) := (ev_ne ha hb rfl rfl rfl).is (by rw [dec_i])
theorem ev_eqS {i j : Str} (ha : Ev K ta env (.str i)) (hb : Ev K tb env (.str j)) : Ev K (tOp rEq ta tb) env (.bool (decide (i = j))) := (ev_eq ha hb rfl rfl rfl).is (by rw [dec_s])
theorem ev_neS {i j : Str} (ha : Ev K ta env (.str i)) (hb : Ev K tb env (.str j)) : Ev K (tOp rNe ta tb) env (.bool (!decide (i = j))) := (ev_ne ha hb rfl rfl rfl).is (by rw [dec_s])
theorem ev_neB {i j : Bool} (ha : Ev K ta env (.bool i)) (hb : Ev K tb env (.bool j)) : Ev K (tOp rNe ta tb) env (.bool (!decide (i = j))) := (ev_ne ha hb rfl rfl rfl).is (by rw [dec_b])
/-- == of data -/
theorem ev_eqD (ha : Ev K ta env d) (hb : Ev K tb env e) (h1 : SeqAt.shaped d = true) (h2 : SeqAt.shaped e = true) : Ev K (tOp (rEqD K) ta tb) env (.bool (PyData.eqv d e)) :=
  ev_op ha hb fun x y H H1 Q s d1 d2 q => ⟨d, e, dm s d1, dm s d2, h1, h2, q _ H H1 (Fr.refl s) (.bl _)⟩
theorem ev_neD (ha : Ev K ta env d) (hb : Ev K tb env e) (h1 : SeqAt.shaped d = true) (h2 : SeqAt.shaped e = true) : Ev K (tOp (rNeD K) ta tb) env (.bool (!PyData.eqv d e)) :=
  ev_op ha hb fun x y H H1 Q s d1 d2 q => ⟨d, e, dm s d1, dm s d2, h1, h2, q _ H H1 (Fr.refl s) (.bl _)⟩
/-- x is None -/
def isN : PyData → Bool
  | .none => true
  | _ => false
theorem dp_isN {v : V} (h : Dp K H v d) : decide (v = .non) = isN d := by cases h <;> rfl
theorem ev_isN (ha : Ev K ta env d) : Ev K (tOp (fun x y H Q => y = .non ∧ Q (.bl (decide (x = .non))) H) ta (tC .non)) env (.bool (isN d)) :=
  ev_op ha (ev_c rfl) fun x y H H1 Q s d1 d2 q => by
    cases d2
    refine ⟨rfl, ?_⟩
    rw [dp_isN d1]
    exact q _ H H1 (Fr.refl s) (.bl _)
theorem ev_notN (ha : Ev K ta env d) : Ev K (tOp (fun x y H Q => y = .non ∧ Q (.bl (!decide (x = .non))) H) ta (tC .non)) env (.bool (!isN d)) :=
  ev_op ha (ev_c rfl) fun x y H H1 Q s d1 d2 q => by
    cases d2
    refine ⟨rfl, ?_⟩
    rw [dp_isN d1]
    exact q _ H H1 (Fr.refl s) (.bl _)
/-! a list's, a tuple's item -/
theorem ixN_lt {n : Nat} {i : Int} {j : Nat} (h : ixN n i = some j) : j < n := by
  unfold ixN at h
  split at h
  · split at h
    · cases h; omega
    · cases h
  · split at h
    · cases h; omega
    · cases h
theorem dpa_atI {vs : List V} (h : DpAll K H vs ds) (e : atI ds i = some d) : ∃ v, atI vs i = some v ∧ Dp K H v d := by
  unfold atI at e ⊢
  rw [dpa_len h]
  cases c : ixN ds.length i with
  | none => rw [c] at e; cases e
  | some j => rw [c] at e; exact dpa_at h e
theorem ev_ixL (ha : Ev K ta env (.list ds)) (hb : Ev K tb env (.int i)) (h : atI ds i = some d) : Ev K (tOp (rIxL K) ta tb) env d :=
  ev_op ha hb fun x y H H1 Q s d1 d2 q => by
    cases d2
    cases d1 with
    | lst hl ha =>
      obtain ⟨v, e1, e2⟩ := dpa_atI ha h
      exact ⟨_, _, i, v, rfl, rfl, s.seq hl, e1, q _ H H1 (Fr.refl s) e2⟩
theorem ev_ixT (ha : Ev K ta env (.tuple ds)) (hb : Ev K tb env (.int i)) (h : atI ds i = some d) : Ev K (tOp (rIxT K) ta tb) env d :=
  ev_op ha hb fun x y H H1 Q s d1 d2 q => by
    cases d2
    cases d1 with
    | tup hl ha =>
      obtain ⟨v, e1, e2⟩ := dpa_atI ha h
      exact ⟨_, _, i, v, rfl, rfl, sqt s hl, e1, q _ H H1 (Fr.refl s) e2⟩
/-- an item of a list that stands, flat -/
theorem ev_ixO (ha : EvL K ta env ds) (hb : Ev K tb env (.int i)) (h : atI ds i = some d) (he : ∀ σ H H1, Stt K H H1 σ env → True) : Ev K (tOp (rIxL K) ta tb) env d := fun σ H H1 st Q q =>
  ha σ H H1 st _ fun p vs G H2 f h2 dv => hb σ G H2 (st.mono f) _ fun y G3 H3 f3 dy => by
    cases dy
    obtain ⟨v, e1, e2⟩ := dpa_atI dv h
    exact ⟨_, _, i, v, rfl, rfl, .inl (.inl (f3.a _ _ h2)), e1, q _ G3 H3 (f.tr0 f3) (dm f3.g e2)⟩
theorem ea_nil : EvA K tNil env [] := fun σ H H1 st Q q => q [] H H1 (Fr.refl st.e) .nil
theorem ea_cons {tr : TA} (ha : Ev K ta env d) (hr : EvA K tr env ds) : EvA K (tCons ta tr) env (d :: ds) := fun σ H H1 st Q q =>
  ha σ H H1 st _ fun v G H2 f d1 => hr σ G H2 (st.mono f) _ fun vs G3 H3 f3 d3 => q (v :: vs) G3 H3 (f.tr0 f3) (.cons (dm f3.g d1) d3)
theorem sz_ok {n : Nat} (h : n ≤ 100000) : n ≤ sizeLine := Nat.le_trans h (by decide)
theorem sz_lt {m : Nat} (h : m < 100000) : m < sizeLine := Nat.lt_of_lt_of_le h (by decide)
theorem ev_tup {t : TA} (h : EvA K t env ds) (hl : ds.length ≤ 100000) : Ev K (tTup t) env (.tuple ds) := fun σ H H1 st Q q =>
  h σ H H1 st _ fun vs G H2 f dv => ⟨by rw [dpa_len dv]; exact sz_ok hl, fun p hp => by
    have n : Fr0 G H2 (upd G p (.tup vs)) (upd H2 p (.tup vs)) := Fr.new f.r hp
    exact q _ _ _ (f.tr0 n) (.tup (.inl (.inl upd_same)) (dms n.g dv))⟩
theorem eo_lst {t : TA} (h : EvA K t env ds) (hl : ds.length ≤ 100000) : EvO K (tLst t) env ds := fun σ H H1 st Q q =>
  h σ H H1 st _ fun vs G H2 f dv => ⟨by rw [dpa_len dv]; exact sz_ok hl, fun p hp => by
    have n : Fr0 G H2 G (upd H2 p (.lst vs)) := Fr.hid f.r hp
    exact q p vs _ _ (f.tr0 n) (f.a.free hp) (f.r.free hp) upd_same dv⟩
/-- a new list, from now on known -/
theorem EvO.ev (h : EvO K te env xs) : Ev K te env (.list xs) := fun σ H H1 st Q q =>
  h σ H H1 st _ fun p vs G H2 f h1 hg h2 dv => by
    refine q _ (upd G p (.lst vs)) H2 ⟨f.g.trans (newS hg), fun b x z => ?_, f.s, fun b hw c1 c2 => ?_, f.m⟩ (.lst (.inl (.inl upd_same)) (dms (newS hg) dv))
    · by_cases c : b = p
      · subst c; rw [upd_same] at z; cases z; exact h2
      · rw [upd_ne c] at z; exact f.r b x z
    · have c : b ≠ p := fun z => c2 (by rw [z]; exact h1)
      rw [upd_ne c]; exact f.n b hw c1 c2
theorem EvO.l (h : EvO K te env xs) : EvL K te env xs := fun σ H H1 st Q q =>
  h σ H H1 st _ fun p vs G H2 f h1 hg h2 dv => q p vs G H2 f h2 dv
theorem el_var {i : Nat} (h : env[i]? = some (.own xs)) : EvL K (tVar i) env xs := fun σ H H1 st Q q => by
  obtain ⟨l, vs, a, b, c, dv⟩ := st.own h
  exact ⟨_, a, q l vs H H1 (Fr.refl st.e) c dv⟩
theorem ev_lst {t : TA} (h : EvA K t env ds) (hl : ds.length ≤ 100000) : Ev K (tLst t) env (.list ds) := (eo_lst h hl).ev
/-- list + list -/
theorem eo_cat (ha : EvL K ta env xs) (hb : EvL K tb env ys) (hl : xs.length + ys.length ≤ 100000) : EvO K (tOp rCat ta tb) env (xs ++ ys) := fun σ H H1 st Q q =>
  ha σ H H1 st _ fun p vs G H2 f h2 dv => hb σ G H2 (st.mono f) _ fun p2 vs2 G3 H3 f3 h3 dv2 => by
    refine ⟨p, p2, vs, vs2, rfl, rfl, f3.a _ _ h2, h3, sz_ok (by rw [dpa_len dv, dpa_len dv2]; exact hl), fun p4 h4 => ?_⟩
    have n : Fr0 G3 H3 G3 (upd H3 p4 (.lst (vs ++ vs2))) := Fr.hid f3.r h4
    exact q p4 _ G3 _ ((f.tr0 f3).tr0 n) ((f.tr0 f3).a.free h4) (f3.r.free h4) upd_same (dpa_app (dms f3.g dv) dv2)
theorem dpa_rep {vs : List V} (h : DpAll K H vs xs) : ∀ n : Nat, DpAll K H (List.replicate n vs).flatten (List.replicate n xs).flatten
  | 0 => .nil
  | n + 1 => by rw [List.replicate_succ, List.replicate_succ, List.flatten_cons, List.flatten_cons]; exact dpa_app h (dpa_rep h n)
/-- list * int -/
theorem eo_rep (ha : EvL K ta env xs) (hb : Ev K tb env (.int i)) (h1 : -100000 ≤ i ∧ i ≤ 100000) (hl : xs.length * i.toNat ≤ 100000) : EvO K (tOp rRep ta tb) env (List.replicate i.toNat xs).flatten := fun σ H H1 st Q q =>
  ha σ H H1 st _ fun p vs G H2 f h2 dv => hb σ G H2 (st.mono f) _ fun y G3 H3 f3 dy => by
    cases dy
    refine ⟨p, i, vs, rfl, rfl, f3.a _ _ h2, by omega, by omega, sz_ok (by rw [dpa_len dv]; exact hl), fun p4 h4 => ?_⟩
    have n : Fr0 G3 H3 G3 (upd H3 p4 (.lst (List.replicate i.toNat vs).flatten)) := Fr.hid f3.r h4
    exact q p4 _ G3 _ ((f.tr0 f3).tr0 n) ((f.tr0 f3).a.free h4) (f3.r.free h4) upd_same (dpa_rep (dms f3.g dv) _)

/-! ### tests -/
theorem et_test {b : Bool} (h : Ev K te env (.bool b)) : EvT K (tTest te) env b := fun σ H H1 st Q q => h σ H H1 st _ fun v G H2 f d => by cases d; exact ⟨b, rfl, q G H2 f⟩
theorem et_B {b : Bool} (h : Ev K te env (.bool b)) : EvT K (tB te) env b := fun σ H H1 st Q q => h σ H H1 st _ fun v G H2 f d => by cases d; exact ⟨b, rfl, q G H2 f⟩
theorem et_and {a b : Bool} (h1 : EvT K t env a) (h2 : a = true → EvT K u env b) : EvT K (tAnd t u) env (a && b) := fun σ H H1 st Q q => h1 σ H H1 st _ fun G H2 f => by
  cases a with
  | true => exact h2 rfl σ G H2 (st.mono f) Q fun G3 H3 f3 => q G3 H3 (f.tr0 f3)
  | false => exact q G H2 f
theorem et_or {a b : Bool} (h1 : EvT K t env a) (h2 : a = false → EvT K u env b) : EvT K (tOr t u) env (a || b) := fun σ H H1 st Q q => h1 σ H H1 st _ fun G H2 f => by
  cases a with
  | true => exact q G H2 f
  | false => exact h2 rfl σ G H2 (st.mono f) Q fun G3 H3 f3 => q G3 H3 (f.tr0 f3)
theorem et_not {a : Bool} (h1 : EvT K t env a) : EvT K (tNot t) env (!a) := fun σ H H1 st Q q => h1 σ H H1 st _ fun G H2 f => q G H2 f
theorem ev_andV {a b : Bool} (h1 : Ev K ta env (.bool a)) (h2 : a = true → Ev K tb env (.bool b)) : Ev K (tAndV ta tb) env (.bool (a && b)) := fun σ H H1 st Q q => h1 σ H H1 st _ fun v G H2 f d => by
  cases d
  refine ⟨a, rfl, ?_⟩
  cases a with
  | true => exact h2 rfl σ G H2 (st.mono f) Q fun v G3 H3 f3 => q v G3 H3 (f.tr0 f3)
  | false => exact q _ G H2 f (.bl _)
theorem ev_orV {a b : Bool} (h1 : Ev K ta env (.bool a)) (h2 : a = false → Ev K tb env (.bool b)) : Ev K (tOrV ta tb) env (.bool (a || b)) := fun σ H H1 st Q q => h1 σ H H1 st _ fun v G H2 f d => by
  cases d
  refine ⟨a, rfl, ?_⟩
  cases a with
  | true => exact q _ G H2 f (.bl _)
  | false => exact h2 rfl σ G H2 (st.mono f) Q fun v G3 H3 f3 => q v G3 H3 (f.tr0 f3)
theorem ev_notV {a : Bool} (h1 : Ev K ta env (.bool a)) : Ev K (tNotV ta) env (.bool (!a)) := fun σ H H1 st Q q => h1 σ H H1 st _ fun v G H2 f d => by
  cases d
  exact ⟨a, rfl, q _ G H2 f (.bl _)⟩
theorem ev_if {b : Bool} (h : EvT K t env b) (h1 : b = true → Ev K ta env d) (h2 : b = false → Ev K tb env d) : Ev K (tIf t ta tb) env d := fun σ H H1 st Q q => h σ H H1 st _ fun G H2 f => by
  cases b with
  | true => exact h1 rfl σ G H2 (st.mono f) Q fun v G3 H3 f3 => q v G3 H3 (f.tr0 f3)
  | false => exact h2 rfl σ G H2 (st.mono f) Q fun v G3 H3 f3 => q v G3 H3 (f.tr0 f3)

/-! ### calls of what is built in -/
theorem ev_cb {r : List V → Hp → VK → Prop} {t : TA} (ha : EvA K t env ds) {f : PyData} (hr : ∀ vs H H1 (Q : VK), Same H H1 → DpAll K H vs ds → (∀ v G H2, Fr0 H H1 G H2 → Dp K G v f → Q v H2) → r vs H1 Q) : Ev K (tCB r t) env f := fun σ H H1 st Q q =>
  ha σ H H1 st _ fun vs G1 H2 f1 d1 => hr vs G1 H2 _ f1.r d1 fun v G3 H4 f3 d3 => q v G3 H4 (f1.tr0 f3) d3
theorem ev_len (ha : Ev K ta env (.list xs)) : Ev K (tCB (fun xs H Q => ∃ p ys, xs = [.ref p] ∧ (SqL K H p ys ∨ SqT K H p ys) ∧ Q (.int ys.length) H) (tCons ta tNil)) env (.int xs.length) :=
  ev_cb (ea_cons ha ea_nil) fun vs H H1 Q s d q => by
    cases d with
    | cons a b =>
      cases b
      cases a with
      | lst hl ha =>
        refine ⟨_, _, rfl, .inl (s.seq hl), ?_⟩
        rw [dpa_len ha]
        exact q _ H H1 (Fr.refl s) (.int _)
theorem ev_lenT (ha : Ev K ta env (.tuple xs)) : Ev K (tCB (fun xs H Q => ∃ p ys, xs = [.ref p] ∧ (SqL K H p ys ∨ SqT K H p ys) ∧ Q (.int ys.length) H) (tCons ta tNil)) env (.int xs.length) :=
  ev_cb (ea_cons ha ea_nil) fun vs H H1 Q s d q => by
    cases d with
    | cons a b =>
      cases b
      cases a with
      | tup hl ha =>
        refine ⟨_, _, rfl, .inr (sqt s hl), ?_⟩
        rw [dpa_len ha]
        exact q _ H H1 (Fr.refl s) (.int _)
theorem ev_lenO (ha : EvL K ta env xs) : Ev K (tCB (fun xs H Q => ∃ p ys, xs = [.ref p] ∧ (SqL K H p ys ∨ SqT K H p ys) ∧ Q (.int ys.length) H) (tCons ta tNil)) env (.int xs.length) := fun σ H H1 st Q q =>
  ha σ H H1 st _ fun p vs G H2 f h2 dv => by
    refine ⟨p, vs, rfl, .inl (.inl (.inl h2)), ?_⟩
    rw [dpa_len dv]
    exact q _ G H2 f (.int _)
/-- list(x): a new list -/
theorem eo_list (ha : Ev K ta env (.list xs)) : EvO K (tCB (fun xs H Q => ∃ p ys, xs = [.ref p] ∧ (SqL K H p ys ∨ SqT K H p ys) ∧ ∀ l, H l = none → Q (.ref l) (upd H l (.lst ys))) (tCons ta tNil)) env xs := fun σ H H1 st Q q =>
  ha σ H H1 st _ fun v G H2 f d => by
    cases d with
    | lst hl hd =>
      refine ⟨_, _, rfl, .inl (f.r.seq hl), fun l h => ?_⟩
      exact q l _ G _ (f.tr0 (Fr.hid f.r h)) (f.a.free h) (f.r.free h) upd_same hd
theorem eo_listT (ha : Ev K ta env (.tuple xs)) : EvO K (tCB (fun xs H Q => ∃ p ys, xs = [.ref p] ∧ (SqL K H p ys ∨ SqT K H p ys) ∧ ∀ l, H l = none → Q (.ref l) (upd H l (.lst ys))) (tCons ta tNil)) env xs := fun σ H H1 st Q q =>
  ha σ H H1 st _ fun v G H2 f d => by
    cases d with
    | tup hl hd =>
      refine ⟨_, _, rfl, .inr (sqt f.r hl), fun l h => ?_⟩
      exact q l _ G _ (f.tr0 (Fr.hid f.r h)) (f.a.free h) (f.r.free h) upd_same hd
theorem eo_listO (ha : EvL K ta env xs) : EvO K (tCB (fun xs H Q => ∃ p ys, xs = [.ref p] ∧ (SqL K H p ys ∨ SqT K H p ys) ∧ ∀ l, H l = none → Q (.ref l) (upd H l (.lst ys))) (tCons ta tNil)) env xs := fun σ H H1 st Q q =>
  ha σ H H1 st _ fun p vs G H2 f h2 dv => by
    refine ⟨p, vs, rfl, .inl (.inl (.inl h2)), fun l h => ?_⟩
    exact q l _ G _ (f.tr0 (Fr.hid f.r h)) (f.a.free h) (f.r.free h) upd_same dv
/-- tuple(list) -/
theorem ev_tuple (ha : EvL K ta env xs) : Ev K (tCB (fun xs H Q => ∃ p ys, xs = [.ref p] ∧ ((SqL K H p ys ∧ ∀ l, H l = none → Q (.ref l) (upd H l (.tup ys))) ∨ (SqT K H p ys ∧ Q (.ref p) H))) (tCons ta tNil)) env (.tuple xs) := fun σ H H1 st Q q =>
  ha σ H H1 st _ fun p vs G H2 f h2 dv => by
    refine ⟨p, vs, rfl, .inl ⟨.inl (.inl h2), fun l h => ?_⟩⟩
    have n : Fr0 G H2 (upd G l (.tup vs)) (upd H2 l (.tup vs)) := Fr.new f.r h
    exact q _ _ _ (f.tr0 n) (.tup (.inl (.inl upd_same)) (dms n.g dv))
theorem ev_abs (ha : Ev K ta env (.int i)) : Ev K (tCB (fun xs H Q => ∃ i, xs = [.int i] ∧ Q (.int (if i < 0 then -i else i)) H) (tCons ta tNil)) env (.int (if i < 0 then -i else i)) :=
  ev_cb (ea_cons ha ea_nil) fun vs H H1 Q s d q => by
    cases d with
    | cons a b => cases b; cases a; exact ⟨i, rfl, q _ H H1 (Fr.refl s) (.int _)⟩
theorem ev_max2 (ha : Ev K ta env (.int i)) (hb : Ev K tb env (.int j)) : Ev K (tCB (fun xs H Q => ∃ i j, xs = [.int i, .int j] ∧ Q (.int (if j > i then j else i)) H) (tCons ta (tCons tb tNil))) env (.int (if j > i then j else i)) :=
  ev_cb (ea_cons ha (ea_cons hb ea_nil)) fun vs H H1 Q s d q => by
    cases d with
    | cons a b => cases b with | cons b c => cases c; cases a; cases b; exact ⟨i, j, rfl, q _ H H1 (Fr.refl s) (.int _)⟩
theorem ev_min2 (ha : Ev K ta env (.int i)) (hb : Ev K tb env (.int j)) : Ev K (tCB (fun xs H Q => ∃ i j, xs = [.int i, .int j] ∧ Q (.int (if j < i then j else i)) H) (tCons ta (tCons tb tNil))) env (.int (if j < i then j else i)) :=
  ev_cb (ea_cons ha (ea_cons hb ea_nil)) fun vs H H1 Q s d q => by
    cases d with
    | cons a b => cases b with | cons b c => cases c; cases a; cases b; exact ⟨i, j, rfl, q _ H H1 (Fr.refl s) (.int _)⟩
theorem ev_intb {b : Bool} (ha : Ev K ta env (.bool b)) : Ev K (tCB (fun xs H Q => (∃ i, xs = [.int i] ∧ Q (.int i) H) ∨ ∃ k, xs = [.bl k] ∧ Q (.int (if k then 1 else 0)) H) (tCons ta tNil)) env (.int (if b then 1 else 0)) :=
  ev_cb (ea_cons ha ea_nil) fun vs H H1 Q s d q => by
    cases d with
    | cons a c => cases c; cases a; exact .inr ⟨b, rfl, q _ H H1 (Fr.refl s) (.int _)⟩
/-! isinstance -/
def tyD : PyData → Value
  | .none => .type "NoneType"
  | .bool _ => .type "bool"
  | .int _ => .type "int"
  | .str _ => .type "str"
  | .list _ => .type "list"
  | .tuple _ => .type "tuple"
  | .dict _ => .type "dict"
theorem ty_dp {v : V} (h : Dp K H v d) : TyX K H v (tyD d) := by
  cases h with
  | non => exact .base .non
  | bl b => exact .base (.bl b)
  | int i => exact .base (.int i)
  | str x => exact .base (.str x)
  | lst a _ =>
    rcases a with (a | ⟨o, a⟩) | ⟨o, its, n, a, b, _⟩
    · exact .base (.lst a)
    · exact .base (.frz a)
    · exact .kList a b
  | tup a _ =>
    rcases a with (a | ⟨o, a⟩) | ⟨o, its, n, a, b, _⟩
    · exact .base (.tup a)
    · exact .fTuple a
    · exact .kTuple a b
theorem ev_isi {n : String} {b : Bool} (ha : Ev K ta env d) (h : PySem.W.kitOne K (tyD d) (.type n) = some b) : Ev K (tCB (rIsi K) (tCons ta (tCons (tC (.ty n)) tNil))) env (.bool b) := fun σ H H1 st Q q =>
  ha σ H H1 st _ fun v G H2 f d1 => ⟨v, .ty n, _, _, b, rfl, .ty n, ty_dp (dm f.r d1), h, q _ G H2 f (.bl b)⟩
end
end Pf

namespace Pf
open PySem PySem.Spec PyProof.Rows L2

/-! ### statements -/
/-- how a piece of a body ends -/
inductive Oc where
  | nx (env : List SV)
  /-- gives data back -/
  | rt (d : PyData)
  /-- gives a list of its own back -/
  | rl (xs : List PyData)
  | bk (env : List SV)
  | ct (env : List SV)
  /-- an exception of the class c leaves -/
  | ex (c : Value) (env : List SV)
  /-- gives this value back -/
  | rr (v : V)
  /-- gives a new tuple of these values back -/
  | rw (vs : List V) (env : List SV)
  /-- gives a list back that is known and stands by itself -/
  | rk (xs : List PyData)
  /-- gives a tuple back: a text, a list of its own, data -/
  | rg (k : Str) (xs rs : List PyData)
  /-- gives a dict of its own back -/
  | ry (P : Program) (w : World) (kvs : List (NestedKey × PyData))
  /-- gives True back, whatever the heap -/
  | rb
def Oc.isNx : Oc → Bool
  | .nx _ => true
  | _ => false
def OcOk (K : PySem.W.Frag) (X : WX) (W : Addr → Prop) (D : Ends) (H H1 : Hp) : Oc → Prop
  | .nx env => ∀ σ G H2, Fr W H H1 G H2 → Stt K G H2 σ env → (∀ l, Ow σ env l → W l ∨ H1 l = none) → D.nx σ H2
  | .bk env => ∀ σ G H2, Fr W H H1 G H2 → Stt K G H2 σ env → (∀ l, Ow σ env l → W l ∨ H1 l = none) → D.bk σ H2
  | .ct env => ∀ σ G H2, Fr W H H1 G H2 → Stt K G H2 σ env → (∀ l, Ow σ env l → W l ∨ H1 l = none) → D.ct σ H2
  | .ex c env => ∀ σ G H2, Fr W H H1 G H2 → Stt K G H2 σ env → (∀ l, Ow σ env l → W l ∨ H1 l = none) → X c none σ H2
  | .rt d => ∀ v G H2, Fr W H H1 G H2 → Dp K G v d → D.rt v H2
  | .rl xs => ∀ p vs G H2, Fr W H H1 G H2 → W p ∨ H1 p = none → G p = none → H2 p = some (.lst vs) → DpAll K G vs xs → D.rt (.ref p) H2
  | .rr v => ∀ G H2, Fr W H H1 G H2 → D.rt v H2
  | .rk xs => ∀ p vs G H2, Fr W H H1 G H2 → G p = some (.lst vs) → DpAll K G vs xs → D.rt (.ref p) H2
  | .rg k xs rs => ∀ t l ws us G H2, Fr W H H1 G H2 → SqT K G t (.str k :: .ref l :: us) → DpAll K G us rs → (W l ∨ H1 l = none) → G l = none → H2 l = some (.lst ws) → DpAll K G ws xs → D.rt (.ref t) H2
  | .ry P w kvs => ∀ p xs G H2, Fr W H H1 G H2 → (W p ∨ H1 p = none) → G p = none → H2 p = some (.ext (DX P w p xs)) → KvOk K G xs kvs → D.rt (.ref p) H2
  | .rb => ∀ H2, D.rt (.bl true) H2
  | .rw vs env => ∀ t σ G H2, Fr W H H1 G H2 → SqT K G t vs → Stt K G H2 σ env → (∀ l, Ow σ env l → W l ∨ H1 l = none) → D.rt (.ref t) H2
/-- the statements end so -/
def Sx (K : PySem.W.Frag) (X : WX) (ts : TS) (env : List SV) (oc : Oc) : Prop := ∀ σ H H1, Stt K H H1 σ env → ∀ D : Ends, OcOk K X (Ow σ env) D H H1 oc → ts D σ H1
section
variable {K : PySem.W.Frag} {X : WX} {env env1 env2 : List SV} {ta tb tc te : TE} {t u ts : TS} {tt : TT} {d e : PyData} {i j : Int} {xs ys ds : List PyData} {oc : Oc}
theorem OcOk.tr {W W' : Addr → Prop} {D : Ends} {H H1 G H2 : Hp} (h : OcOk K X W D H H1 oc) (f : Fr W H H1 G H2) (w : ∀ p, W' p → W p ∨ H1 p = none) : OcOk K X W' D G H2 oc := by
  have ww : ∀ {p : Addr}, W' p ∨ H2 p = none → W p ∨ H1 p = none := fun {p} z => z.elim (w p) fun z => .inr (f.m p z)
  cases oc with
  | nx env => exact fun σ G' H3 f' st o => h σ G' H3 (f.trans f' w) st fun l z => ww (o l z)
  | bk env => exact fun σ G' H3 f' st o => h σ G' H3 (f.trans f' w) st fun l z => ww (o l z)
  | ct env => exact fun σ G' H3 f' st o => h σ G' H3 (f.trans f' w) st fun l z => ww (o l z)
  | ex c env => exact fun σ G' H3 f' st o => h σ G' H3 (f.trans f' w) st fun l z => ww (o l z)
  | rt d => exact fun v G' H3 f' dv => h v G' H3 (f.trans f' w) dv
  | rl xs => exact fun p vs G' H3 f' a b c dv => h p vs G' H3 (f.trans f' w) (ww a) b c dv
  | rr v => exact fun G' H3 f' => h G' H3 (f.trans f' w)
  | rk xs => exact fun p vs G' H3 f' => h p vs G' H3 (f.trans f' w)
  | rg k xs rs => exact fun t l ws us G' H3 f' a b c => h t l ws us G' H3 (f.trans f' w) a b (ww c)
  | ry P w' kvs => exact fun p xs G' H3 f' a => h p xs G' H3 (f.trans f' w) (ww a)
  | rb => exact h
  | rw vs env => exact fun t σ G' H3 f' a st o => h t σ G' H3 (f.trans f' w) a st fun l z => ww (o l z)
theorem OcOk.tr0 {W : Addr → Prop} {D : Ends} {H H1 G H2 : Hp} (h : OcOk K X W D H H1 oc) (f : Fr0 H H1 G H2) : OcOk K X W D G H2 oc :=
  h.tr (f.mono fun _ z => z.elim) fun _ z => .inl z
theorem Sx.to {oc' : Oc} (h : Sx K X t env oc) (q : oc = oc') : Sx K X t env oc' := q ▸ h

/-! one after another -/
theorem sx_seq (h1 : Sx K X t env (.nx env1)) (h2 : Sx K X u env1 oc) : Sx K X (tSeq t u) env oc := fun σ H H1 st D q =>
  h1 σ H H1 st { D with nx := u D } fun σ' G H2 f st' o => h2 σ' G H2 st' D (q.tr f o)
/-- what ends here -/
theorem sx_end (h1 : Sx K X t env oc) (he : oc.isNx = false) : Sx K X (tSeq t u) env oc := fun σ H H1 st D q =>
  h1 σ H H1 st { D with nx := u D } (by
    cases oc with
    | nx env => cases he
    | bk env => exact q
    | ct env => exact q
    | ex c env => exact q
    | rt d => exact q
    | rl xs => exact q
    | rr v => exact q
    | rw vs e => exact q
    | rk xs => exact q
    | rg k xs rs => exact q
    | ry P w kvs => exact q
    | rb => exact q)
theorem sx_next : Sx K X tNext env (.nx env) := fun σ H H1 st D q => q σ H H1 (Fr.refl st.e) st fun l z => .inl z
theorem sx_break : Sx K X tBreak env (.bk env) := fun σ H H1 st D q => q σ H H1 (Fr.refl st.e) st fun l z => .inl z
theorem sx_cont : Sx K X tCont env (.ct env) := fun σ H H1 st D q => q σ H H1 (Fr.refl st.e) st fun l z => .inl z
theorem sx_cut (h1 : Sx K X t env (.nx env1)) (h2 : Sx K X u env1 oc) : Sx K X (Evl.tCut t u) env oc := fun σ H H1 st D q =>
  ⟨u D, h1 σ H H1 st { D with nx := u D } fun σ' G H2 f st' o => h2 σ' G H2 st' D (q.tr f o), fun _ _ z => z⟩
theorem sx_set {i : Nat} (h : Ev K te env d) : Sx K X (tAsg te (gName i)) env (.nx (env.set i (.dat d))) := fun σ H H1 st D q =>
  h σ H H1 st _ fun v G H2 f dv => q (σ.set i (some v)) G H2 (f.mono fun _ z => z.elim) ((st.mono f).setD dv) fun l z => by
    rcases Ow.set z with z | ⟨z, _⟩
    · exact .inl z
    · cases z
theorem sx_setO {i : Nat} (h : EvO K te env xs) : Sx K X (tAsg te (gName i)) env (.nx (env.set i (.own xs))) := fun σ H H1 st D q =>
  h σ H H1 st _ fun p vs G H2 f h1 hg h2 dv => q (σ.set i (some (.ref p))) G H2 (f.mono fun _ z => z.elim) (st.setN f h1 hg h2 dv) fun l z => by
    rcases Ow.set z with z | ⟨_, z⟩
    · exact .inl z
    · cases z; exact .inr h1
theorem sx_ret (h : Ev K te env d) : Sx K X (tRet te) env (.rt d) := fun σ H H1 st D q =>
  h σ H H1 st _ fun v G H2 f dv => q v G H2 (f.mono fun _ z => z.elim) dv
theorem sx_retO (h : EvO K te env xs) : Sx K X (tRet te) env (.rl xs) := fun σ H H1 st D q =>
  h σ H H1 st _ fun p vs G H2 f h1 hg h2 dv => q p vs G H2 (f.mono fun _ z => z.elim) (.inr h1) hg h2 dv
/-- one's own list is given back -/
theorem sx_retV {i : Nat} (h : env[i]? = some (.own xs)) : Sx K X (tRet (tVar i)) env (.rl xs) := fun σ H H1 st D q => by
  obtain ⟨l, vs, a, b, c, dv⟩ := st.own h
  exact ⟨_, a, q l vs H H1 (Fr.refl st.e) (.inl ⟨i, _, h, rfl, a⟩) b c dv⟩
theorem sx_drop (h : Ev K te env d) : Sx K X (tDrop te) env (.nx env) := fun σ H H1 st D q =>
  h σ H H1 st _ fun v G H2 f dv => q σ G H2 (f.mono fun _ z => z.elim) (st.mono f) fun l z => .inl z
theorem sx_if {b : Bool} (h : EvT K tt env b) (h1 : b = true → Sx K X t env oc) (h2 : b = false → Sx K X u env oc) : Sx K X (tIfS tt t u) env oc := fun σ H H1 st D q =>
  h σ H H1 st _ fun G H2 f => by
    cases b with
    | true => exact h1 rfl σ G H2 (st.mono f) D (q.tr0 f)
    | false => exact h2 rfl σ G H2 (st.mono f) D (q.tr0 f)
theorem sx_yes (h : EvT K tt env true) (h1 : Sx K X t env oc) : Sx K X (tIfS tt t u) env oc := sx_if h (fun _ => h1) fun z => nomatch z
theorem sx_no (h : EvT K tt env false) (h1 : Sx K X u env oc) : Sx K X (tIfS tt t u) env oc := sx_if h (fun z => nomatch z) fun _ => h1
/-- an if that may end the body, and what follows -/
theorem sx_when {b : Bool} (h : EvT K tt env b) (h1 : b = true → Sx K X t env oc) (he : b = true → oc.isNx = false) (h2 : b = false → Sx K X ts env oc) : Sx K X (tSeq (tIfS tt t tNext) ts) env oc := by
  cases b with
  | true => exact sx_end (sx_yes h (h1 rfl)) (he rfl)
  | false => exact sx_seq (sx_no h sx_next) (h2 rfl)
/-- if c: .. else: .., and what follows from either -/
theorem sx_ifs {b : Bool} (h : EvT K tt env b) (h1 : b = true → Sx K X t env (.nx env1)) (h2 : b = false → Sx K X u env (.nx env1)) (h3 : Sx K X ts env1 oc) : Sx K X (tSeq (tIfS tt t u) ts) env oc := sx_seq (sx_if h h1 h2) h3
/-- xs.append(e) -/
theorem sx_app {i : Nat} (h : env[i]? = some (.own xs)) (he : Ev K te env d) (hz : xs.length < 100000) : Sx K X (tDrop (tBM K "list" rAppend (tVar i) (tCons te tNil))) env (.nx (env.set i (.own (xs ++ [d])))) := fun σ H H1 st D q => by
  obtain ⟨l, vs, a, b, c, dv⟩ := st.own h
  refine ⟨_, a, .inl ⟨rfl, _, .inl (.inl c)⟩, he σ H H1 st _ fun v G H2 f dv2 => ?_⟩
  have st2 := st.mono f
  obtain ⟨l', vs', a', b', c', dv'⟩ := st2.own h
  rw [a] at a'; cases a'
  have hw : Ow σ env l := ⟨i, _, h, rfl, a⟩
  refine ⟨l, vs', v, rfl, rfl, c', sz_lt (by rw [dpa_len dv']; exact hz), ?_⟩
  have e2 : Same G (upd H2 l (.lst (vs' ++ [v]))) := fun p o z => by
    rw [upd_ne (ne_of_none z b')]; exact f.r p o z
  refine q σ G _ ⟨f.g, e2, fun p o nw z => ?_, fun p nw => f.n p (fun z => z), fun p z => f.m p (upd_none z)⟩ ?_ fun l z => ?_
  · have n : p ≠ l := fun z => nw (z ▸ hw)
    rw [upd_ne n]; exact f.s p o (fun z => z) z
  · refine ⟨e2, by rw [List.length_set]; exact st2.l, fun j o s ea eb => ?_, fun j k s s' p hjk b1 b2 o1 o2 a1 => ?_⟩
    · by_cases ej : i = j
      · subst ej
        rw [a] at ea; cases ea
        have hi : i < env.length := (List.getElem?_eq_some_iff.mp h).1
        rw [List.getElem?_set_self hi] at eb; cases eb
        exact ⟨l, _, rfl, b', upd_same, dpa_app dv' (.cons dv2 .nil)⟩
      · rw [List.getElem?_set_ne ej] at eb
        have ok := st2.ok j o s ea eb
        cases s with
        | no => trivial
        | dat d => exact ok
        | own zs =>
          obtain ⟨l2, ws, q1, q2, q3, q4⟩ := ok
          subst q1
          have n : l2 ≠ l := fun z => st2.ne i j _ _ l ej h eb rfl rfl a (z ▸ ea)
          exact ⟨l2, ws, rfl, q2, by rw [upd_ne n]; exact q3, q4⟩
        | obj x =>
          obtain ⟨l2, q1, q2, q3⟩ := ok
          subst q1
          have n : l2 ≠ l := fun z => st2.ne i j _ _ l ej h eb rfl rfl a (z ▸ ea)
          exact ⟨l2, rfl, q2, by rw [upd_ne n]; exact q3⟩
        | raw v => exact ok
        | dct P w kvs =>
          obtain ⟨l2, ws, q1, q2, q3, q4⟩ := ok
          subst q1
          have n : l2 ≠ l := fun z => st2.ne i j _ _ l ej h eb rfl rfl a (z ▸ ea)
          exact ⟨l2, ws, rfl, q2, by rw [upd_ne n]; exact q3, q4⟩
        | stk w ks =>
          obtain ⟨l2, ws, q1, q2, q3, q4⟩ := ok
          subst q1
          have n : l2 ≠ l := fun z => st2.ne i j _ _ l ej h eb rfl rfl a (z ▸ ea)
          exact ⟨l2, ws, rfl, q2, by rw [upd_ne n]; exact q3, q4⟩
        | dcf P w kvs => exact ok
        | kl xs => exact ok
        | kpg k xs rs => exact ok
        | kep n xs ys => exact ok
        | rd v d => exact ok
        | tupv ws => exact ok
        | ownA l2 zs =>
          obtain ⟨q1, ws, q2, q3, q4⟩ := ok
          subst q1
          have n : l2 ≠ l := fun z => st2.ne i j _ _ l ej h eb rfl rfl a (z ▸ ea)
          exact ⟨rfl, ws, q2, by rw [upd_ne n]; exact q3, q4⟩
    · by_cases e1 : i = j
      · subst e1
        rw [List.getElem?_set_ne hjk] at b2
        exact st2.ne i k _ s' p hjk h b2 rfl o2 a1
      · rw [List.getElem?_set_ne e1] at b1
        by_cases e2 : i = k
        · subst e2
          exact st2.ne j i s _ p hjk b1 h o1 rfl a1
        · rw [List.getElem?_set_ne e2] at b2
          exact st2.ne j k s s' p hjk b1 b2 o1 o2 a1
  · obtain ⟨j, s, z1, z2, z3⟩ := z
    by_cases e1 : i = j
    · subst e1
      rw [a] at z3; cases z3
      exact .inl hw
    · rw [List.getElem?_set_ne e1] at z1
      exact .inl ⟨j, s, z1, z2, z3⟩
/-- one's own list is from now on data that stays -/
theorem Stt.freeze {H H1 : Hp} {σ : L2.St} {i : Nat} (st : Stt K H H1 σ env) (h : env[i]? = some (.own xs)) : ∃ (l : Addr) (vs : List V), σ[i]? = some (some (.ref l)) ∧ H l = none ∧ H1 l = some (.lst vs) ∧ Stt K (upd H l (.lst vs)) H1 σ (env.set i (.dat (.list xs))) := by
  obtain ⟨l, vs, a, b, c, dv⟩ := st.own h
  refine ⟨l, vs, a, b, c, fun p o z => ?_, by rw [List.length_set]; exact st.l, fun j o s ea eb => ?_, fun j k s s' p hjk b1 b2 o1 o2 a1 => ?_⟩
  · by_cases e : p = l
    · subst e; rw [upd_same] at z; cases z; exact c
    · rw [upd_ne e] at z; exact st.e p o z
  · by_cases ej : i = j
    · subst ej
      rw [a] at ea; cases ea
      have hi : i < env.length := (List.getElem?_eq_some_iff.mp h).1
      rw [List.getElem?_set_self hi] at eb; cases eb
      exact ⟨_, rfl, dp_list upd_same (dms (newS b) dv)⟩
    · rw [List.getElem?_set_ne ej] at eb
      have ok := st.ok j o s ea eb
      cases s with
      | no => trivial
      | dat d => obtain ⟨v, q1, q2⟩ := ok; exact ⟨v, q1, dm (newS b) q2⟩
      | own zs =>
        obtain ⟨l2, ws, q1, q2, q3, q4⟩ := ok
        subst q1
        have n : l2 ≠ l := fun z => st.ne i j _ _ l ej h eb rfl rfl a (z ▸ ea)
        exact ⟨l2, ws, rfl, by rw [upd_ne n]; exact q2, q3, dms (newS b) q4⟩
      | obj x =>
        obtain ⟨l2, q1, q2, q3⟩ := ok
        subst q1
        have n : l2 ≠ l := fun z => st.ne i j _ _ l ej h eb rfl rfl a (z ▸ ea)
        exact ⟨l2, rfl, by rw [upd_ne n]; exact q2, q3⟩
      | raw v => exact ok
      | dct P w kvs =>
        obtain ⟨l2, ws, q1, q2, q3, q4⟩ := ok
        subst q1
        have n : l2 ≠ l := fun z => st.ne i j _ _ l ej h eb rfl rfl a (z ▸ ea)
        exact ⟨l2, ws, rfl, by rw [upd_ne n]; exact q2, q3, q4.mono (newS b)⟩
      | stk w ks =>
        obtain ⟨l2, ws, q1, q2, q3, q4⟩ := ok
        subst q1
        have n : l2 ≠ l := fun z => st.ne i j _ _ l ej h eb rfl rfl a (z ▸ ea)
        exact ⟨l2, ws, rfl, by rw [upd_ne n]; exact q2, q3, q4.mono (newS b)⟩
      | dcf P w kvs => obtain ⟨l2, o, ws, q1, q2, q3⟩ := ok; exact ⟨l2, o, ws, q1, newS b _ _ q2, q3.mono (newS b)⟩
      | kl xs => obtain ⟨p1, vs, e0, e1, e2⟩ := ok; exact ⟨p1, vs, e0, newS b _ _ e1, dms (newS b) e2⟩
      | kpg k xs rs => obtain ⟨t, p1, vs, us, e0, e1, e2, e3, e4⟩ := ok; exact ⟨t, p1, vs, us, e0, sqt (newS b) e1, newS b _ _ e2, dms (newS b) e3, dms (newS b) e4⟩
      | kep n xs ys => obtain ⟨t, p1, p2, vs, ws, e0, e1, e2, e3, e4, e5⟩ := ok; exact ⟨t, p1, p2, vs, ws, e0, sqt (newS b) e1, newS b _ _ e2, dms (newS b) e3, newS b _ _ e4, dms (newS b) e5⟩
      | rd v d => exact ⟨ok.1, dm (newS b) ok.2⟩
      | tupv ws => obtain ⟨t, q1, q2⟩ := ok; exact ⟨t, q1, sqt (newS b) q2⟩
      | ownA l2 zs =>
        obtain ⟨q1, ws, q2, q3, q4⟩ := ok
        subst q1
        have n : l2 ≠ l := fun z => st.ne i j _ _ l ej h eb rfl rfl a (z ▸ ea)
        exact ⟨rfl, ws, by rw [upd_ne n]; exact q2, q3, dms (newS b) q4⟩
  · have e1 : i ≠ j := fun z => by
      subst z
      have hi : i < env.length := (List.getElem?_eq_some_iff.mp h).1
      rw [List.getElem?_set_self hi] at b1; cases b1; cases o1
    have e2 : i ≠ k := fun z => by
      subst z
      have hi : i < env.length := (List.getElem?_eq_some_iff.mp h).1
      rw [List.getElem?_set_self hi] at b2; cases b2; cases o2
    rw [List.getElem?_set_ne e1] at b1
    rw [List.getElem?_set_ne e2] at b2
    exact st.ne j k s s' p hjk b1 b2 o1 o2 a1
theorem Ow.freeze {σ : L2.St} {i : Nat} {l : Addr} (w : Ow σ (env.set i (.dat d)) l) : Ow σ env l := by
  obtain ⟨j, s, a, b, c⟩ := w
  by_cases e : i = j
  · subst e
    have hi : i < env.length := by have := (List.getElem?_eq_some_iff.mp a).1; rwa [List.length_set] at this
    rw [List.getElem?_set_self hi] at a
    cases a; cases b
  · rw [List.getElem?_set_ne e] at a
    exact ⟨j, s, a, b, c⟩
theorem sx_fix (i : Nat) (h : env[i]? = some (.own xs)) (k : Sx K X t (env.set i (.dat (.list xs))) oc) : Sx K X t env oc := fun σ H H1 st D q => by
  obtain ⟨l, vs, a, b, c, st'⟩ := st.freeze h
  refine k σ _ H1 st' D (q.tr ⟨newS b, st'.e, fun _ _ _ z => z, fun p nw hp _ => ?_, fun _ z => z⟩ fun p z => .inl (Ow.freeze z))
  have n : p ≠ l := fun z => nw ⟨i, _, h, rfl, by rw [z]; exact a⟩
  rw [upd_ne n]; exact hp
/-- within an expression whose answer is flat, one's own list may be read as data -/
theorem ev_fix {w : V} (i : Nat) (h : env[i]? = some (.own xs)) (hd : fv d = some w) (k : Ev K te (env.set i (.dat (.list xs))) d) : Ev K te env d := fun σ H H1 st Q q => by
  obtain ⟨l, vs, a, b, c, st'⟩ := st.freeze h
  refine k σ _ H1 st' Q fun v G H2 f dv => ?_
  cases dp_fv hd dv
  refine q _ H H2 ⟨Same.refl _, (newS b).trans (f.g.trans f.r), f.s, fun _ _ z _ => z, f.m⟩ ?_
  revert hd
  cases dv <;> intro hd
  · exact .non
  · exact .bl _
  · exact .int _
  · exact .str _
  · cases hd
  · cases hd
/-- less is known -/
theorem Stt.less {H H1 : Hp} {σ : L2.St} (st : Stt K H H1 σ env) (hl : env1.length = env.length) (h : ∀ (i : Nat) s, env1[i]? = some s → s = .no ∨ env[i]? = some s) : Stt K H H1 σ env1 := by
  refine ⟨st.e, by rw [hl]; exact st.l, fun i o s a b => ?_, fun i j s s' l hij b1 b2 o1 o2 a1 => ?_⟩
  · rcases h i s b with z | z
    · subst z; trivial
    · exact st.ok i o s a z
  · rcases h i s b1 with z | z
    · subst z; cases o1
    · rcases h j s' b2 with y | y
      · subst y; cases o2
      · exact st.ne i j s s' l hij z y o1 o2 a1
end
end Pf

namespace Pf
open PySem PySem.Spec PyProof.Rows L2

section
variable {K : PySem.W.Frag} {X : WX} {env env1 env2 : List SV} {ta tb tc te tl : TE} {t u ts : TS} {tt : TT} {d e : PyData} {i j : Int} {xs ys ds : List PyData} {oc : Oc}
/-! ### targets -/
/-- the data d given to a target -/
def Tg (K : PySem.W.Frag) (g : TG) (env : List SV) (d : PyData) (env' : List SV) : Prop := ∀ σ H H1 v, Stt K H H1 σ env → Dp K H v d → ∀ Q : L2.St → Hp → Prop, (∀ σ', Stt K H H1 σ' env' → (∀ l, Ow σ' env' l → Ow σ env l) → Q σ' H1) → g v σ H1 Q
def Tgs (K : PySem.W.Frag) (g : TGs) (env : List SV) (ds : List PyData) (env' : List SV) : Prop := ∀ σ H H1 vs, Stt K H H1 σ env → DpAll K H vs ds → ∀ Q : L2.St → Hp → Prop, (∀ σ', Stt K H H1 σ' env' → (∀ l, Ow σ' env' l → Ow σ env l) → Q σ' H1) → g vs σ H1 Q
theorem tg_name {n : Nat} : Tg K (gName n) env d (env.set n (.dat d)) := fun σ H H1 v st dv Q q =>
  q _ (st.setD dv) fun l z => by
    rcases Ow.set z with z | ⟨z, _⟩
    · exact z
    · cases z
theorem tgs_nil : Tgs K gNil env [] env := fun σ H H1 vs st dv Q q => by cases dv; exact ⟨rfl, q _ st fun _ z => z⟩
theorem tgs_cons {g : TG} {gs : TGs} (h : Tg K g env d env1) (hs : Tgs K gs env1 ds env2) : Tgs K (gCons g gs) env (d :: ds) env2 := fun σ H H1 vs st dv Q q => by
  cases dv with
  | cons a b => exact ⟨_, _, rfl, h σ H H1 _ st a _ fun σ' st' o => hs σ' H H1 _ st' b _ fun σ2 st2 o2 => q σ2 st2 fun l z => o l (o2 l z)⟩
theorem tg_tup {n : Nat} {gs : TGs} (h : Tgs K gs env ds env1) (hn : ds.length = n) : Tg K (gTup K n gs) env (.tuple ds) env1 := fun σ H H1 v st dv Q q => by
  cases dv with
  | tup a b => exact ⟨_, _, rfl, sqt st.e a, by rw [dpa_len b]; exact hn, h σ H H1 _ st b Q q⟩
theorem sx_asg {g : TG} (h : Ev K te env d) (hg : Tg K g env d env1) : Sx K X (tAsg te g) env (.nx env1) := fun σ H H1 st D q =>
  h σ H H1 st _ fun v G H2 f dv => hg σ G H2 v (st.mono f) dv _ fun σ' st' o => q σ' G H2 (f.mono fun _ z => z.elim) st' fun l z => .inl (o l z)

/-! ### for -/
/-- what stands between two turns: from the loop's own start -/
def Pt (K : PySem.W.Frag) (W : Addr → Prop) (H H1 : Hp) (Inv : Nat → List SV) : Nat → L2.St → Hp → Prop := fun i σ' H' => ∃ G, Fr W H H1 G H' ∧ Stt K G H' σ' (Inv i) ∧ ∀ l, Ow σ' (Inv i) l → W l ∨ H1 l = none
theorem Pt.turn {W : Addr → Prop} {H H1 H' G : Hp} {Inv : Nat → List SV} {i : Nat} {σ' : L2.St} {D : Ends} (f : Fr W H H1 G H') (st : Stt K G H' σ' (Inv i)) (ow : ∀ l, Ow σ' (Inv i) l → W l ∨ H1 l = none) {D' : Ends} (hD : D'.nx = Pt K W H H1 Inv (i + 1)) (hc : D'.ct = Pt K W H H1 Inv (i + 1)) :
    OcOk K X (Ow σ' (Inv i)) D' G H' (.nx (Inv (i + 1))) ∧ OcOk K X (Ow σ' (Inv i)) D' G H' (.ct (Inv (i + 1))) := by
  have z : ∀ σ G2 H2, Fr (Ow σ' (Inv i)) G H' G2 H2 → Stt K G2 H2 σ (Inv (i + 1)) → (∀ l, Ow σ (Inv (i + 1)) l → Ow σ' (Inv i) l ∨ H' l = none) → Pt K W H H1 Inv (i + 1) σ H2 := fun σ G2 H2 f2 st2 o2 =>
    ⟨G2, f.trans f2 ow, st2, fun l z => (o2 l z).elim (ow l) fun z => .inr (f.m l z)⟩
  exact ⟨fun σ G2 H2 f2 st2 o2 => by rw [hD]; exact z σ G2 H2 f2 st2 o2, fun σ G2 H2 f2 st2 o2 => by rw [hc]; exact z σ G2 H2 f2 st2 o2⟩
/-- a body's turn: on to the next, by its end or by continue -/
def Go (K : PySem.W.Frag) (X : WX) (t : TS) (env env' : List SV) : Prop := Sx K X t env (.nx env') ∨ Sx K X t env (.ct env')
/-- for over a list of data; o i: how the turn i ends the whole, if it does -/
theorem sx_forE {g : TG} (h : Ev K tl env (.list ds)) (Inv : Nat → List SV) (h0 : Inv 0 = env) (o : Nat → Bool) (ex : Oc) (hx : ex.isNx = false) (hb : ∀ e, ex ≠ .bk e) (hc : ∀ e, ex ≠ .ct e)
    (go : ∀ (i : Nat) (d : PyData), ds[i]? = some d → (∀ j, j < i → o j = false) → ∃ env', Tg K g (Inv i) d env' ∧ ((o i = false → Go K X t env' (Inv (i + 1))) ∧ (o i = true → oc = ex ∧ Sx K X t env' ex)))
    (rest : (∀ j, j < ds.length → o j = false) → Sx K X u (Inv ds.length) oc) : Sx K X (tSeq (tFor (iList K tl) g t) u) env oc := fun σ H H1 st D q => by
  refine h σ H H1 st _ fun v G0 H2 f dv => ?_
  cases dv with
  | @lst a vs _ hl hd =>
    have f' : Fr (Ow σ env) H H1 G0 H2 := f.mono fun _ z => z.elim
    have stay : ∀ {G H' : Hp}, Fr (Ow σ env) G0 H2 G H' → SqL K H' a vs := fun {G H'} f2 => f2.r.seq (f2.g.seq hl)
    refine ⟨a, rfl, ⟨vs, f.r.seq hl⟩, for_list (K := K) (a := a) (xs := vs) (fun i σ' H' => Pt K (Ow σ env) G0 H2 Inv i σ' H' ∧ ∀ j, j < i → o j = false) ⟨⟨G0, Fr.refl f.r, by rw [h0]; exact st.mono f, fun l z => .inl (by rw [h0] at z; exact z)⟩, fun j hj => absurd hj (Nat.not_lt_zero j)⟩ (fun i σ' H' _ p => ?_) (fun i x σ' H' hi p => ?_) (fun σ' H' p => ?_)⟩
    · obtain ⟨⟨G, f2, _, _⟩, _⟩ := p
      exact stay f2
    · obtain ⟨⟨G, f2, st2, ow⟩, hj⟩ := p
      obtain ⟨d, e1, e2⟩ := dpa_get hd hi
      obtain ⟨env', tg, g1, g2⟩ := go i d e1 hj
      refine tg σ' G H' x st2 (dm f2.g e2) _ fun σ2 st3 o3 => ?_
      have ow3 : ∀ l, Ow σ2 env' l → Ow σ env l ∨ H2 l = none := fun l z => ow l (o3 l z)
      cases hoi : o i with
      | false =>
        have nx : ∀ σ3 G3 H3, Fr (Ow σ2 env') G H' G3 H3 → Stt K G3 H3 σ3 (Inv (i + 1)) → (∀ l, Ow σ3 (Inv (i + 1)) l → Ow σ2 env' l ∨ H' l = none) → Pt K (Ow σ env) G0 H2 Inv (i + 1) σ3 H3 ∧ ∀ j, j < i + 1 → o j = false := fun σ3 G3 H3 f3 st4 o4 =>
          ⟨⟨G3, f2.trans f3 ow3, st4, fun l z => (o4 l z).elim (ow3 l) fun z => .inr (f2.m l z)⟩, fun j hj' => by
            rcases Nat.lt_succ_iff_lt_or_eq.mp hj' with z | z
            · exact hj j z
            · rw [z]; exact hoi⟩
        rcases g1 hoi with w | w
        · exact w σ2 G H' st3 _ nx
        · exact w σ2 G H' st3 _ nx
      | true =>
        obtain ⟨eo, w⟩ := g2 hoi
        refine w σ2 G H' st3 _ ?_
        have q' : OcOk K X (Ow σ2 env') D G H' ex := by
          rw [eo] at q
          refine (q.tr f' fun l z => .inl z).tr f2 ow3
        cases ex with
        | nx e => cases hx
        | bk e => exact absurd rfl (hb e)
        | ct e => exact absurd rfl (hc e)
        | ex c e => exact q'
        | rt d => exact q'
        | rl x => exact q'
        | rr v => exact q'
        | rw vs e => exact q'
        | rk xs => exact q'
        | rg k xs rs => exact q'
        | ry P w kvs => exact q'
        | rb => exact q'
    · obtain ⟨⟨G, f2, st2, ow⟩, hj⟩ := p
      rw [dpa_len hd] at st2 ow hj
      exact rest hj σ' G H' st2 D ((q.tr f' fun l z => .inl z).tr f2 ow)
/-- for over a list of data, every turn goes on -/
theorem sx_for {g : TG} (h : Ev K tl env (.list ds)) (Inv : Nat → List SV) (h0 : Inv 0 = env) (go : ∀ (i : Nat) (d : PyData), ds[i]? = some d → ∃ env', Tg K g (Inv i) d env' ∧ Go K X t env' (Inv (i + 1))) : Sx K X (tFor (iList K tl) g t) env (.nx (Inv ds.length)) := fun σ H H1 st D q => by
  refine h σ H H1 st _ fun v G0 H2 f dv => ?_
  cases dv with
  | @lst a vs _ hl hd =>
    have f' : Fr (Ow σ env) H H1 G0 H2 := f.mono fun _ z => z.elim
    have stay : ∀ {G H' : Hp}, Fr (Ow σ env) G0 H2 G H' → SqL K H' a vs := fun {G H'} f2 => f2.r.seq (f2.g.seq hl)
    refine ⟨a, rfl, ⟨vs, f.r.seq hl⟩, for_list (K := K) (a := a) (xs := vs) (Pt K (Ow σ env) G0 H2 Inv) ⟨G0, Fr.refl f.r, by rw [h0]; exact st.mono f, fun l z => .inl (by rw [h0] at z; exact z)⟩ (fun i σ' H' _ p => ?_) (fun i x σ' H' hi p => ?_) (fun σ' H' p => ?_)⟩
    · obtain ⟨G, f2, _, _⟩ := p
      exact stay f2
    · obtain ⟨G, f2, st2, ow⟩ := p
      obtain ⟨d, e1, e2⟩ := dpa_get hd hi
      obtain ⟨env', tg, g1⟩ := go i d e1
      refine tg σ' G H' x st2 (dm f2.g e2) _ fun σ2 st3 o3 => ?_
      have ow3 : ∀ l, Ow σ2 env' l → Ow σ env l ∨ H2 l = none := fun l z => ow l (o3 l z)
      have nx : ∀ σ3 G3 H3, Fr (Ow σ2 env') G H' G3 H3 → Stt K G3 H3 σ3 (Inv (i + 1)) → (∀ l, Ow σ3 (Inv (i + 1)) l → Ow σ2 env' l ∨ H' l = none) → Pt K (Ow σ env) G0 H2 Inv (i + 1) σ3 H3 := fun σ3 G3 H3 f3 st4 o4 =>
        ⟨G3, f2.trans f3 ow3, st4, fun l z => (o4 l z).elim (ow3 l) fun z => .inr (f2.m l z)⟩
      rcases g1 with w | w
      · exact w σ2 G H' st3 _ nx
      · exact w σ2 G H' st3 _ nx
    · obtain ⟨G, f2, st2, ow⟩ := p
      rw [dpa_len hd] at st2 ow
      exact q σ' G H' (f'.trans f2 fun l z => .inl z) st2 fun l z => (ow l z).elim .inl fun z => .inr (f.m l z)
/-- for over range(n), range(a, b), every turn goes on -/
theorem sx_forR1 {n : Nat} {ta : TA} {g : TG} {k : Int} (h : EvA K ta env [.int k]) (hk : -100000 ≤ k ∧ k ≤ 100000) (hn : k.toNat = n) (Inv : Nat → List SV) (h0 : Inv 0 = env) (go : ∀ i : Nat, i < n → ∃ env', Tg K g (Inv i) (.int i) env' ∧ Go K X t env' (Inv (i + 1))) :
    Sx K X (tFor (iRng1 ta) g t) env (.nx (Inv n)) := fun σ H H1 st D q => by
  refine h σ H H1 st _ fun vs G0 H2 f dv => ?_
  cases dv with
  | cons a b =>
    cases b; cases a
    have f' : Fr (Ow σ env) H H1 G0 H2 := f.mono fun _ z => z.elim
    refine ⟨k, rfl, by omega, by omega, for_range (lo := 0) (n := k.toNat) (Pt K (Ow σ env) G0 H2 Inv) ⟨G0, Fr.refl f.r, by rw [h0]; exact st.mono f, fun l z => .inl (by rw [h0] at z; exact z)⟩ (fun i σ' H' hi p => ?_) (fun σ' H' p => ?_)⟩
    · obtain ⟨G, f2, st2, ow⟩ := p
      obtain ⟨env', tg, g1⟩ := go i (by omega)
      rw [Int.zero_add]
      refine tg σ' G H' _ st2 (.int _) _ fun σ2 st3 o3 => ?_
      have ow3 : ∀ l, Ow σ2 env' l → Ow σ env l ∨ H2 l = none := fun l z => ow l (o3 l z)
      have nx : ∀ σ3 G3 H3, Fr (Ow σ2 env') G H' G3 H3 → Stt K G3 H3 σ3 (Inv (i + 1)) → (∀ l, Ow σ3 (Inv (i + 1)) l → Ow σ2 env' l ∨ H' l = none) → Pt K (Ow σ env) G0 H2 Inv (i + 1) σ3 H3 := fun σ3 G3 H3 f3 st4 o4 =>
        ⟨G3, f2.trans f3 ow3, st4, fun l z => (o4 l z).elim (ow3 l) fun z => .inr (f2.m l z)⟩
      rcases g1 with w | w
      · exact w σ2 G H' st3 _ nx
      · exact w σ2 G H' st3 _ nx
    · obtain ⟨G, f2, st2, ow⟩ := p
      rw [hn] at st2 ow
      exact q σ' G H' (f'.trans f2 fun l z => .inl z) st2 fun l z => (ow l z).elim .inl fun z => .inr (f.m l z)
/-- a loop's word may forget -/
theorem sx_less (hl : env1.length = env.length) (h : ∀ (i : Nat) s, env1[i]? = some s → s = .no ∨ env[i]? = some s) (k : Sx K X t env1 oc) : Sx K X t env oc := fun σ H H1 st D q =>
  k σ H H1 (st.less hl h) D (q.tr (Fr.refl st.e) fun l z => by
    obtain ⟨j, s, a, b, c⟩ := z
    rcases h j s a with y | y
    · subst y; cases b
    · exact .inl ⟨j, s, y, b, c⟩)
theorem sx_nx_less (hl : env2.length = env1.length) (h : ∀ (i : Nat) s, env2[i]? = some s → s = .no ∨ env1[i]? = some s) (k : Sx K X t env (.nx env1)) : Sx K X t env (.nx env2) := fun σ H H1 st D q =>
  k σ H H1 st D fun σ' G H2 f st' o => q σ' G H2 f (st'.less hl h) fun l z => by
    obtain ⟨j, s, a, b, c⟩ := z
    rcases h j s a with y | y
    · subst y; cases b
    · exact o l ⟨j, s, y, b, c⟩
end
end Pf

namespace Pf
open PySem PySem.Spec PyProof.Rows L2

section
variable {K : PySem.W.Frag} {X : WX} {env env1 env2 : List SV} {ta tb tc te tl : TE} {t u ts : TS} {tt : TT} {d e : PyData} {i j : Int} {xs ys ds : List PyData} {oc : Oc}
theorem Stt.monoW {W : Addr → Prop} {H H1 G H2 : Hp} {σ : L2.St} (h : Stt K H H1 σ env) (f : Fr W H H1 G H2) (hw : ∀ l, Ow σ env l → ¬ W l) : Stt K G H2 σ env := by
  refine ⟨f.r, h.l, fun i o s a b => ?_, h.ne⟩
  have ok := h.ok i o s a b
  cases s with
  | no => trivial
  | dat d => obtain ⟨v, e1, e2⟩ := ok; exact ⟨v, e1, dm f.g e2⟩
  | own xs =>
    obtain ⟨l, vs, e1, e2, e3, e4⟩ := ok
    subst e1
    have nw := hw l ⟨i, _, b, rfl, a⟩
    exact ⟨l, vs, rfl, f.n l nw e2 (by rw [e3]; exact fun z => nomatch z), f.s _ _ nw e3, dms f.g e4⟩
  | obj x =>
    obtain ⟨l, e1, e2, e3⟩ := ok
    subst e1
    have nw := hw l ⟨i, _, b, rfl, a⟩
    exact ⟨l, rfl, f.n l nw e2 (by rw [e3]; exact fun z => nomatch z), f.s _ _ nw e3⟩
  | raw v => exact ok
  | dct P w kvs =>
    obtain ⟨l, vs, e1, e2, e3, e4⟩ := ok
    subst e1
    have nw := hw l ⟨i, _, b, rfl, a⟩
    exact ⟨l, vs, rfl, f.n l nw e2 (by rw [e3]; exact fun z => nomatch z), f.s _ _ nw e3, e4.mono f.g⟩
  | stk w ks =>
    obtain ⟨l, vs, e1, e2, e3, e4⟩ := ok
    subst e1
    have nw := hw l ⟨i, _, b, rfl, a⟩
    exact ⟨l, vs, rfl, f.n l nw e2 (by rw [e3]; exact fun z => nomatch z), f.s _ _ nw e3, e4.mono f.g⟩
  | dcf P w kvs => obtain ⟨l, o, xs, q1, q2, q3⟩ := ok; exact ⟨l, o, xs, q1, f.g _ _ q2, q3.mono f.g⟩
  | kl xs => obtain ⟨p1, vs, e0, e1, e2⟩ := ok; exact ⟨p1, vs, e0, f.g _ _ e1, dms f.g e2⟩
  | kpg k xs rs => obtain ⟨t, p1, vs, us, e0, e1, e2, e3, e4⟩ := ok; exact ⟨t, p1, vs, us, e0, sqt f.g e1, f.g _ _ e2, dms f.g e3, dms f.g e4⟩
  | kep n xs ys => obtain ⟨t, p1, p2, vs, ws, e0, e1, e2, e3, e4, e5⟩ := ok; exact ⟨t, p1, p2, vs, ws, e0, sqt f.g e1, f.g _ _ e2, dms f.g e3, f.g _ _ e4, dms f.g e5⟩
  | rd v d => exact ⟨ok.1, dm f.g ok.2⟩
  | tupv ws => obtain ⟨t, q1, q2⟩ := ok; exact ⟨t, q1, sqt f.g q2⟩
  | ownA l xs =>
    obtain ⟨e1, vs, e2, e3, e4⟩ := ok
    subst e1
    have nw := hw l ⟨i, _, b, rfl, a⟩
    exact ⟨rfl, vs, f.n l nw e2 (by rw [e3]; exact fun z => nomatch z), f.s _ _ nw e3, dms f.g e4⟩

/-! ### comprehensions -/
def wipeE (env : List SV) : List Nat → List SV
  | [] => env
  | v :: vs => (wipeE env vs).set v .no
theorem Stt.forget {H H1 : Hp} {σ : L2.St} (h : Stt K H H1 σ env) (v : Nat) : Stt K H H1 (σ.set v none) (env.set v .no) := by
  refine ⟨h.e, by rw [List.length_set, List.length_set]; exact h.l, fun j o s a b => ?_, fun j k s t l hjk b1 b2 o1 o2 a1 => ?_⟩
  · by_cases c : v = j
    · subst c
      have hi : v < env.length := by have := (List.getElem?_eq_some_iff.mp b).1; rwa [List.length_set] at this
      rw [List.getElem?_set_self hi] at b; cases b; trivial
    · rw [List.getElem?_set_ne c] at a b
      exact h.ok j o s a b
  · have c1 : v ≠ j := fun c => by
      subst c
      have hi : v < env.length := by have := (List.getElem?_eq_some_iff.mp b1).1; rwa [List.length_set] at this
      rw [List.getElem?_set_self hi] at b1; cases b1; cases o1
    have c2 : v ≠ k := fun c => by
      subst c
      have hi : v < env.length := by have := (List.getElem?_eq_some_iff.mp b2).1; rwa [List.length_set] at this
      rw [List.getElem?_set_self hi] at b2; cases b2; cases o2
    rw [List.getElem?_set_ne c1] at a1 b1
    rw [List.getElem?_set_ne c2] at b2 ⊢
    exact h.ne j k s t l hjk b1 b2 o1 o2 a1
theorem Stt.wipe {H H1 : Hp} {σ : L2.St} (h : Stt K H H1 σ env) : ∀ vs : List Nat, Stt K H H1 (L2.wipe σ vs) (wipeE env vs)
  | [] => h
  | v :: vs => (h.wipe vs).forget v
theorem Ow.wipe {σ : L2.St} {l : Addr} : ∀ {vs : List Nat}, Ow (L2.wipe σ vs) (wipeE env vs) l → Ow σ env l
  | [], z => z
  | v :: vs, z => by
    have z' : Ow ((L2.wipe σ vs).set v none) ((wipeE env vs).set v .no) l := z
    rcases Ow.set z' with y | ⟨y, _⟩
    · exact Ow.wipe y
    · cases y
theorem wipe_set {σ : L2.St} {x : Option V} {n : Nat} : ∀ {vs : List Nat}, n ∈ vs → L2.wipe (σ.set n x) vs = L2.wipe σ vs
  | v :: vs, h => by
    show (L2.wipe (σ.set n x) vs).set v none = (L2.wipe σ vs).set v none
    by_cases e : n ∈ vs
    · rw [wipe_set e]
    · have ev : n = v := by
        rcases List.mem_cons.mp h with z | z
        · exact z
        · exact absurd z e
      subst ev
      have : ∀ {ws : List Nat}, n ∉ ws → L2.wipe (σ.set n x) ws = (L2.wipe σ ws).set n x := by
        intro ws
        induction ws with
        | nil => intro _; rfl
        | cons w ws ih =>
          intro hw
          show (L2.wipe (σ.set n x) ws).set w none = ((L2.wipe σ ws).set w none).set n x
          rw [ih fun z => hw (List.mem_cons_of_mem _ z), List.set_comm _ _ fun z => hw (by rw [z]; exact List.mem_cons_self)]
      rw [this e, List.set_set]
theorem wipe_wipe {σ : L2.St} : ∀ {vs ws : List Nat}, (∀ v ∈ vs, v ∈ ws) → L2.wipe (L2.wipe σ vs) ws = L2.wipe σ ws
  | [], _, _ => rfl
  | v :: vs, ws, h => by
    show L2.wipe ((L2.wipe σ vs).set v none) ws = _
    rw [wipe_set (h v List.mem_cons_self)]
    exact wipe_wipe fun z hz => h z (List.mem_cons_of_mem _ hz)
/-- as Tg, the slots vs alone changed -/
def Tgw (K : PySem.W.Frag) (vs : List Nat) (g : TG) (env : List SV) (d : PyData) (env' : List SV) : Prop := ∀ σ H H1 v, Stt K H H1 σ env → Dp K H v d → ∀ Q : L2.St → Hp → Prop, (∀ σ', Stt K H H1 σ' env' → (∀ l, Ow σ' env' l → Ow σ env l) → L2.wipe σ' vs = L2.wipe σ vs → Q σ' H1) → g v σ H1 Q
def Tgsw (K : PySem.W.Frag) (vs : List Nat) (g : TGs) (env : List SV) (ds : List PyData) (env' : List SV) : Prop := ∀ σ H H1 ws, Stt K H H1 σ env → DpAll K H ws ds → ∀ Q : L2.St → Hp → Prop, (∀ σ', Stt K H H1 σ' env' → (∀ l, Ow σ' env' l → Ow σ env l) → L2.wipe σ' vs = L2.wipe σ vs → Q σ' H1) → g ws σ H1 Q
theorem tgw_name {n : Nat} {vs : List Nat} (hn : n ∈ vs) : Tgw K vs (gName n) env d (env.set n (.dat d)) := fun σ H H1 v st dv Q q =>
  q _ (st.setD dv) (fun l z => by
    rcases Ow.set z with z | ⟨z, _⟩
    · exact z
    · cases z) (wipe_set hn)
theorem tgsw_nil {vs : List Nat} : Tgsw K vs gNil env [] env := fun σ H H1 ws st dv Q q => by cases dv; exact ⟨rfl, q _ st (fun _ z => z) rfl⟩
theorem tgsw_cons {g : TG} {gs : TGs} {vs : List Nat} (h : Tgw K vs g env d env1) (hs : Tgsw K vs gs env1 ds env2) : Tgsw K vs (gCons g gs) env (d :: ds) env2 := fun σ H H1 ws st dv Q q => by
  cases dv with
  | cons a b => exact ⟨_, _, rfl, h σ H H1 _ st a _ fun σ' st' o w1 => hs σ' H H1 _ st' b _ fun σ2 st2 o2 w2 => q σ2 st2 (fun l z => o l (o2 l z)) (w2.trans w1)⟩
theorem tgw_tup {n : Nat} {gs : TGs} {vs : List Nat} (h : Tgsw K vs gs env ds env1) (hn : ds.length = n) : Tgw K vs (gTup K n gs) env (.tuple ds) env1 := fun σ H H1 v st dv Q q => by
  cases dv with
  | tup a b => exact ⟨_, _, rfl, sqt st.e a, by rw [dpa_len b]; exact hn, h σ H H1 _ st b Q q⟩
/-- what has been made behind some turns -/
def Mk (K : PySem.W.Frag) (G0 H2 : Hp) (D : Addr) (ds : List PyData) (H' : Hp) : Prop := ∃ G ac, Fr (fun p => p = D) G0 H2 G H' ∧ G D = none ∧ H' D = some (.lst ac) ∧ DpAll K G ac ds
theorem mk_turn {H2 H' G G0 : Hp} {D : Addr} {ac : List V} {b : Bool} {σ2 : L2.St} (f : Fr (fun p => p = D) G0 H2 G H') (hG : G D = none) (ha : H' D = some (.lst ac)) (dv : DpAll K G ac ds) (hz : ds.length < 100000)
    (st : Stt K G H' σ2 env1) (ht : EvT K tt env1 b) (he : b = true → Ev K te env1 d) :
    tt σ2 H' fun k H3 => if k = true then te σ2 H3 fun y H4 => ∃ acc, H4 D = some (.lst acc) ∧ acc.length < sizeLine ∧ Mk K G0 H2 D (ds ++ (if b = true then [d] else [])) (upd H4 D (.lst (acc ++ [y]))) else Mk K G0 H2 D (ds ++ (if b = true then [d] else [])) H3 := by
  refine ht σ2 G H' st _ fun G1 H3 f1 => ?_
  have D1 : G1 D = none := f1.n D (fun z => z) hG (by rw [ha]; exact fun z => nomatch z)
  cases b with
  | true =>
    show te σ2 H3 _
    refine he rfl σ2 G1 H3 (st.mono f1) _ fun y G2 H4 f2 d2 => ?_
    have a3 := f1.a _ _ ha
    have D2 : G2 D = none := f2.n D (fun z => z) D1 (by rw [a3]; exact fun z => nomatch z)
    have f3 := (f.tr0 f1).tr0 f2
    refine ⟨ac, f2.a _ _ a3, sz_lt (by rw [dpa_len dv]; exact hz), G2, ac ++ [y], ⟨f3.g, fun p o z => ?_, fun p o nw z => ?_, f3.n, fun p z => f3.m p (upd_none z)⟩, D2, upd_same, dpa_app (dms (f1.g.trans f2.g) dv) (.cons d2 .nil)⟩
    · rw [upd_ne (ne_of_none z D2)]; exact f3.r p o z
    · rw [upd_ne (show p ≠ D from nw)]; exact f3.s p o nw z
  | false =>
    show Mk K G0 H2 D (ds ++ []) H3
    rw [List.append_nil]
    exact ⟨G1, ac, f.tr0 f1, D1, f1.a _ _ ha, dms f1.g dv⟩
theorem mk_start {G0 H2 : Hp} {D : Addr} (e : Same G0 H2) (hD : H2 D = none) : Mk K G0 H2 D [] (upd H2 D (.lst [])) :=
  ⟨G0, [], Fr.hid e hD, e.free hD, upd_same, .nil⟩
theorem filter_next {α : Type} {f : α → Bool} {w : α → PyData} {xs : List α} {i : Nat} {x : α} (h : xs[i]? = some x) : ((xs.take (i + 1)).filter f).map w = ((xs.take i).filter f).map w ++ (if f x = true then [w x] else []) := by
  rw [List.take_add_one, h, List.filter_append, List.map_append]
  show _ ++ List.map w (List.filter f [x]) = _
  cases e : f x with
  | true => rw [List.filter_cons, if_pos e]; rfl
  | false => rw [List.filter_cons, if_neg (by rw [e]; decide)]; rfl
theorem take_short {α : Type} {f : α → Bool} {w : α → PyData} {xs : List α} {i : Nat} (h : xs.length < 100000) : (((xs.take i).filter f).map w).length < 100000 := by
  rw [List.length_map]
  refine Nat.lt_of_le_of_lt (List.length_filter_le _ _) ?_
  rw [List.length_take]; omega
/-- [e for target in a list of data if ..] -/
theorem eo_lcL {α : Type} (xs : List α) (en : α → PyData) (f : α → Bool) (w : α → PyData) {g : TG} {vs : List Nat} (h : Ev K tl env (.list (xs.map en))) (hz : xs.length < 100000) (turn : ∀ x ∈ xs, ∃ env', Tgw K vs g (wipeE env vs) (en x) env' ∧ EvT K tt env' (f x) ∧ (f x = true → Ev K te env' (w x))) :
    EvO K (tLc (iList K tl) g tt te vs) env ((xs.filter f).map w) := fun σ H H1 st Q q => by
  refine h σ H H1 st _ fun v G0 H2 f0 dv => ?_
  cases dv with
  | @lst a as _ hl hd =>
    refine ⟨a, rfl, ⟨as, f0.r.seq hl⟩, fun D hD => ?_⟩
    have st0 := st.mono f0
    have nD : ∀ l, Ow (L2.wipe σ vs) (wipeE env vs) l → ¬ l = D := fun l z e => by
      have := (st0.owned (Ow.wipe z)).2
      exact this (by rw [e]; exact hD)
    have hlen : as.length = xs.length := by rw [dpa_len hd, List.length_map]
    refine lc_list (K := K) (a := a) (xs := as) (fun i H' => Mk K G0 H2 D (((xs.take i).filter f).map w) H') (mk_start f0.r hD) (fun i H' _ p => ?_) (fun i x H' hi p => ?_) (fun H' p => ?_)
    · obtain ⟨G, ac, f1, _⟩ := p
      exact f1.r.seq (f1.g.seq hl)
    · obtain ⟨G, ac, f1, hG, ha, da⟩ := p
      obtain ⟨d, e1, e2⟩ := dpa_get hd hi
      rw [List.getElem?_map] at e1
      cases ex : xs[i]? with
      | none => rw [ex] at e1; cases e1
      | some x' =>
        rw [ex] at e1
        obtain rfl : en x' = d := Option.some.inj e1
        obtain ⟨env', tg, ht, he⟩ := turn x' (List.mem_of_getElem? ex)
        refine tg _ G H' x ((st0.wipe vs).monoW f1 nD) (dm f1.g e2) _ fun σ' st' o hw => ⟨?_, ?_⟩
        · rw [hw]; exact wipe_wipe fun _ z => z
        · rw [filter_next ex]
          exact mk_turn f1 hG ha da (take_short hz) st' ht he
    · obtain ⟨G, ac, f1, hG, ha, da⟩ := p
      have ff : Fr0 H H1 G H' := f0.trans f1 fun p z => .inr (by rw [z]; exact f0.a.free hD)
      rw [hlen, List.take_length] at da
      exact q D ac G H' ff (f0.a.free hD) hG ha da
theorem range_get {n i : Nat} (h : i < n) : (List.range n)[i]? = some i := by simp [h]
/-- [e for k in range(n) if ..] -/
theorem eo_lcR {n : Nat} {k : Int} {ta : TA} (f : Nat → Bool) (w : Nat → PyData) {g : TG} {vs : List Nat} (h : EvA K ta env [.int k]) (hk : -100000 < k ∧ k < 100000) (hn : k.toNat = n) (turn : ∀ i : Nat, i < n → ∃ env', Tgw K vs g (wipeE env vs) (.int i) env' ∧ EvT K tt env' (f i) ∧ (f i = true → Ev K te env' (w i))) :
    EvO K (tLc (iRng1 ta) g tt te vs) env (((List.range n).filter f).map w) := fun σ H H1 st Q q => by
  refine h σ H H1 st _ fun ws G0 H2 f0 dv => ?_
  cases dv with
  | cons a b =>
    cases b; cases a
    refine ⟨k, rfl, by omega, by omega, fun D hD => ?_⟩
    have st0 := st.mono f0
    have nD : ∀ l, Ow (L2.wipe σ vs) (wipeE env vs) l → ¬ l = D := fun l z e => by
      have := (st0.owned (Ow.wipe z)).2
      exact this (by rw [e]; exact hD)
    have hz : (List.range n).length < 100000 := by rw [List.length_range]; omega
    refine lc_range (lo := 0) (n := k.toNat) (fun i H' => Mk K G0 H2 D ((((List.range n).take i).filter f).map w) H') (mk_start f0.r hD) (fun i H' hi p => ?_) (fun H' p => ?_)
    · obtain ⟨G, ac, f1, hG, ha, da⟩ := p
      have ex : (List.range n)[i]? = some i := range_get (by omega)
      obtain ⟨env', tg, ht, he⟩ := turn i (by omega)
      rw [Int.zero_add]
      refine tg _ G H' _ ((st0.wipe vs).monoW f1 nD) (.int _) _ fun σ' st' o hw => ⟨?_, ?_⟩
      · rw [hw]; exact wipe_wipe fun _ z => z
      · rw [filter_next ex]
        exact mk_turn f1 hG ha da (take_short hz) st' ht he
    · obtain ⟨G, ac, f1, hG, ha, da⟩ := p
      have ff : Fr0 H H1 G H' := f0.trans f1 fun p z => .inr (by rw [z]; exact f0.a.free hD)
      rw [hn, List.take_of_length_le (by rw [List.length_range]; exact Nat.le_refl _)] at da
      exact q D ac G H' ff (f0.a.free hD) hG ha da

/-! ### calls of defs -/
/-- a def that gives data back -/
def spG (K : PySem.W.Frag) (R : List PyData → PyData → Prop) : Sp := fun vs H1 Q _ => ∃ H ds d, Same H H1 ∧ DpAll K H vs ds ∧ R ds d ∧ ∀ v G H2, Fr0 H H1 G H2 → Dp K G v d → Q v H2
/-- .. a new list -/
def spL (K : PySem.W.Frag) (R : List PyData → List PyData → Prop) : Sp := fun vs H1 Q _ => ∃ H ds xs, Same H H1 ∧ DpAll K H vs ds ∧ R ds xs ∧ ∀ p ws G H2, Fr0 H H1 G H2 → H1 p = none → G p = none → H2 p = some (.lst ws) → DpAll K G ws xs → Q (.ref p) H2
/-- .. data, or raises -/
def spX (K : PySem.W.Frag) (R : List PyData → PyData → Prop) (B : List PyData → Value → Prop) : Sp := fun vs H1 Q E => ∃ H ds, Same H H1 ∧ DpAll K H vs ds ∧ ((∃ d, R ds d ∧ ∀ v G H2, Fr0 H H1 G H2 → Dp K G v d → Q v H2) ∨ ∃ c, B ds c ∧ ∀ G H2, Fr0 H H1 G H2 → E c none H2)
/-- .. a new list, or raises -/
def spXL (K : PySem.W.Frag) (R : List PyData → List PyData → Prop) (B : List PyData → Value → Prop) : Sp := fun vs H1 Q E => ∃ H ds, Same H H1 ∧ DpAll K H vs ds ∧
  ((∃ xs, R ds xs ∧ ∀ p ws G H2, Fr0 H H1 G H2 → H1 p = none → G p = none → H2 p = some (.lst ws) → DpAll K G ws xs → Q (.ref p) H2) ∨ ∃ c, B ds c ∧ ∀ G H2, Fr0 H H1 G H2 → E c none H2)
variable {R : List PyData → PyData → Prop} {RL : List PyData → List PyData → Prop} {B : List PyData → Value → Prop} {E : L2.St → XK} {aa : TA}
theorem ev_call (ha : EvA K aa env ds) (hr : R ds d) : Ev K (tCallS (spG K R) E aa) env d := fun σ H H1 st Q q =>
  ha σ H H1 st _ fun vs G H2 f dv => ⟨G, ds, d, f.r, dv, hr, fun v G3 H3 f3 d3 => q v G3 H3 (f.tr0 f3) d3⟩
theorem eo_call (ha : EvA K aa env ds) (hr : RL ds xs) : EvO K (tCallS (spL K RL) E aa) env xs := fun σ H H1 st Q q =>
  ha σ H H1 st _ fun vs G H2 f dv => ⟨G, ds, xs, f.r, dv, hr, fun p ws G3 H3 f3 h1 h2 h3 d3 => q p ws G3 H3 (f.tr0 f3) (f.a.free h1) h2 h3 d3⟩
theorem ev_callX (ha : EvA K aa env ds) (hr : R ds d) : Ev K (tCallS (spX K R B) E aa) env d := fun σ H H1 st Q q =>
  ha σ H H1 st _ fun vs G H2 f dv => ⟨G, ds, f.r, dv, .inl ⟨d, hr, fun v G3 H3 f3 d3 => q v G3 H3 (f.tr0 f3) d3⟩⟩
theorem eo_callX (ha : EvA K aa env ds) (hr : RL ds xs) : EvO K (tCallS (spXL K RL B) E aa) env xs := fun σ H H1 st Q q =>
  ha σ H H1 st _ fun vs G H2 f dv => ⟨G, ds, f.r, dv, .inl ⟨xs, hr, fun p ws G3 H3 f3 h1 h2 h3 d3 => q p ws G3 H3 (f.tr0 f3) (f.a.free h1) h2 h3 d3⟩⟩
/-- an exception leaves the expression -/
def EvX (K : PySem.W.Frag) (X : WX) (te : TE) (env : List SV) (c : Value) : Prop := ∀ σ H H1, Stt K H H1 σ env → ∀ Q : VK, (∀ G H2, Fr0 H H1 G H2 → X c none σ H2) → te σ H1 Q
def EvXA (K : PySem.W.Frag) (X : WX) (ta : TA) (env : List SV) (c : Value) : Prop := ∀ σ H H1, Stt K H H1 σ env → ∀ Q : List V → Hp → Prop, (∀ G H2, Fr0 H H1 G H2 → X c none σ H2) → ta σ H1 Q
variable {c : Value}
theorem evx_call (ha : EvA K aa env ds) (hb : B ds c) : EvX K X (tCallS (spX K R B) (WE X) aa) env c := fun σ H H1 st Q q =>
  ha σ H H1 st _ fun vs G H2 f dv => ⟨G, ds, f.r, dv, .inr ⟨c, hb, fun G3 H3 f3 => q G3 H3 (f.tr0 f3)⟩⟩
theorem evx_callL (ha : EvA K aa env ds) (hb : B ds c) : EvX K X (tCallS (spXL K RL B) (WE X) aa) env c := fun σ H H1 st Q q =>
  ha σ H H1 st _ fun vs G H2 f dv => ⟨G, ds, f.r, dv, .inr ⟨c, hb, fun G3 H3 f3 => q G3 H3 (f.tr0 f3)⟩⟩
theorem evx_op2 {r : R2} (ha : Ev K ta env d) (hb : EvX K X tb env c) : EvX K X (tOp r ta tb) env c := fun σ H H1 st Q q =>
  ha σ H H1 st _ fun v G H2 f dv => hb σ G H2 (st.mono f) _ fun G3 H3 f3 => q G3 H3 (f.tr0 f3)
theorem evx_op1 {r : R2} (ha : EvX K X ta env c) : EvX K X (tOp r ta tb) env c := fun σ H H1 st Q q => ha σ H H1 st _ q
theorem evx_head {tr : TA} (ha : EvX K X ta env c) : EvXA K X (tCons ta tr) env c := fun σ H H1 st Q q => ha σ H H1 st _ q
theorem evx_tail {tr : TA} (ha : Ev K ta env d) (hr : EvXA K X tr env c) : EvXA K X (tCons ta tr) env c := fun σ H H1 st Q q =>
  ha σ H H1 st _ fun v G H2 f dv => hr σ G H2 (st.mono f) _ fun G3 H3 f3 => q G3 H3 (f.tr0 f3)
theorem evx_cb {r : List V → Hp → VK → Prop} (ha : EvXA K X aa env c) : EvX K X (tCB r aa) env c := fun σ H H1 st Q q => ha σ H H1 st _ q
theorem evx_tup (ha : EvXA K X aa env c) : EvX K X (tTup aa) env c := fun σ H H1 st Q q => ha σ H H1 st _ q
theorem evx_args {sp : Sp} (ha : EvXA K X aa env c) : EvX K X (tCallS sp E aa) env c := fun σ H H1 st Q q => ha σ H H1 st _ q
theorem sx_outD (h : EvX K X te env c) : Sx K X (tDrop te) env (.ex c env) := fun σ H H1 st D q => h σ H H1 st _ fun G H2 f => q σ G H2 (f.mono fun _ z => z.elim) (st.mono f) fun l z => .inl z
theorem sx_outR (h : EvX K X te env c) : Sx K X (tRet te) env (.ex c env) := fun σ H H1 st D q => h σ H H1 st _ fun G H2 f => q σ G H2 (f.mono fun _ z => z.elim) (st.mono f) fun l z => .inl z
theorem sx_outS {g : TG} (h : EvX K X te env c) : Sx K X (tAsg te g) env (.ex c env) := fun σ H H1 st D q => h σ H H1 st _ fun G H2 f => q σ G H2 (f.mono fun _ z => z.elim) (st.mono f) fun l z => .inl z

/-! ### try -/
def Oc.isEx : Oc → Bool
  | .ex _ _ => true
  | _ => false
theorem OcOk.wx {X' : WX} {W : Addr → Prop} {D : Ends} {H H1 : Hp} (h : OcOk K X W D H H1 oc) (e : oc.isEx = false) : OcOk K X' W D H H1 oc := by
  cases oc <;> first | exact h | cases e
theorem sx_try_ok {cl : Value} {tbb : WX → TS} {tss : Addr → Value → Option Addr → TS} (h : ∀ X', Sx K X' (tbb X') env oc) (e : oc.isEx = false) : Sx K X (fun D σ H => tbb (wOnly K cl tss X D) D σ H) env oc := fun σ H H1 st D q =>
  h _ σ H H1 st D (q.wx e)
theorem sx_try_ex {cl c : Value} {tbb : WX → TS} {tss : Addr → Value → Option Addr → TS} (h : ∀ X', Sx K X' (tbb X') env (.ex c env1)) (hm : PySem.W.exmOne K c cl = some true) (hs : ∀ a, Sx K X (tss a c none) env1 oc) : Sx K X (fun D σ H => tbb (wOnly K cl tss X D) D σ H) env oc := fun σ H H1 st D q =>
  h _ σ H H1 st D fun σ' G H2 f st' o => ⟨true, hm, fun _ a _ => hs a σ' G H2 st' D (q.tr f o), fun z => nomatch z⟩
theorem sx_try_by {cl c : Value} {tbb : WX → TS} {tss : Addr → Value → Option Addr → TS} (h : ∀ X', Sx K X' (tbb X') env (.ex c env1)) (hm : PySem.W.exmOne K c cl = some false) : Sx K X (fun D σ H => tbb (wOnly K cl tss X D) D σ H) env (.ex c env1) := fun σ H H1 st D q =>
  h _ σ H H1 st D fun σ' G H2 f st' o => ⟨false, hm, (fun z => nomatch z), fun _ => q σ' G H2 f st' o⟩

/-! ### a def's whole body -/
theorem ow_none {σ : L2.St} (h : ∀ s ∈ env, s.isOwn = false) {l : Addr} (w : Ow σ env l) : False := by
  obtain ⟨i, s, a, b, _⟩ := w
  rw [h s (List.mem_of_getElem? a)] at b
  cases b
theorem stt_start {H H1 : Hp} {N : List Str} {vs : List V} {n : Nat} (s : Same H H1) (dv : DpAll K H vs ds) (hn : N.length - ds.length = n) : Stt K H H1 (L2.start N vs) (ds.map .dat ++ List.replicate n .no) := by
  have e0 : N.length - vs.length = n := by rw [dpa_len dv]; exact hn
  refine ⟨s, ?_, fun i o sv a b => ?_, fun i j s1 s2 l _ b1 _ o1 _ _ => ?_⟩
  · unfold L2.start
    rw [e0, List.length_append, List.length_append, List.length_map, List.length_map, List.length_replicate, List.length_replicate, dpa_len dv]
  · by_cases hi : i < ds.length
    · rw [List.getElem?_append_left (by rw [List.length_map]; exact hi), List.getElem?_map, List.getElem?_eq_getElem hi] at b
      obtain rfl := Option.some.inj b
      obtain ⟨v, e1, e2⟩ := dpa_at dv (List.getElem?_eq_getElem hi)
      unfold L2.start at a
      rw [List.getElem?_append_left (by rw [List.length_map, dpa_len dv]; exact hi), List.getElem?_map, e1] at a
      obtain rfl := Option.some.inj a
      exact ⟨v, rfl, e2⟩
    · rw [List.getElem?_append_right (by rw [List.length_map]; omega)] at b
      obtain ⟨_, rfl⟩ := List.mem_replicate.mp (List.mem_of_getElem? b)
      trivial
  · have m := List.mem_of_getElem? b1
    rcases List.mem_append.mp m with m | m
    · obtain ⟨d, _, rfl⟩ := List.mem_map.mp m; cases o1
    · obtain ⟨_, rfl⟩ := List.mem_replicate.mp m; cases o1
theorem run {H H1 : Hp} {N : List Str} {vs : List V} {n : Nat} {D : Ends} (s : Same H H1) (dv : DpAll K H vs ds) (hn : N.length - ds.length = n) (h : Sx K X t (ds.map .dat ++ List.replicate n .no) oc) (q : OcOk K X (fun _ => False) D H H1 oc) : t D (L2.start N vs) H1 := by
  have st := stt_start (N := N) s dv hn
  refine h _ H H1 st D (q.tr (Fr.refl s) fun p z => (ow_none (fun sv m => ?_) z).elim)
  rcases List.mem_append.mp m with m | m
  · obtain ⟨d, _, rfl⟩ := List.mem_map.mp m; rfl
  · obtain ⟨_, rfl⟩ := List.mem_replicate.mp m; rfl
end
theorem pass0S {X : Cx} {σ : L2.St} {E : XK} : PassesAt CX0 X σ E := fun _ _ _ _ _ _ h => h.elim
end Pf

namespace Pf
open PySem PySem.Spec PyProof.Rows L2

section
variable {X : Cx}
/-! ### sets of whole numbers: a comprehension; set(a tuple) -/
/-- {e for target in source if ..} -/
def tSi (w : World) (wi : TI) (g : TG) (tt : TT) (te : TE) (vs : List Nat) : TE := fun σ H Q => wi σ H fun J G =>
  ∀ D, G D = none → ∃ W : Nat → Nat → Hp → Prop, (∃ k, W 0 k (upd G D (SetO w D (fun _ => false) 0))) ∧
    ∀ i k H, W i k H → (J.stop i H ∧ Q (.ref D) H) ∨ (J.go i H ∧ ∃ Nx : Hp → Prop, (∀ H', Nx H' → ∃ k', k' < k ∧ W (i + 1) k' H') ∧
      ∀ x H', J.yld i H x H' → g x (wipe σ vs) H' fun σ' Ha => wipe σ' vs = wipe σ vs ∧
        tt σ' Ha fun b Hb => if b = true then te σ' Hb fun y Hc => ∃ (z : Int) (S : Int → Bool) (n : Nat), y = .int z ∧ Hc D = some (SetO w D S n) ∧ n + 1 < scanBound ∧
          Nx (upd Hc D (SetO w D (fun j => S j || decide (j = z)) (if S z = true then n else n + 1))) else Nx Hb)
theorem add_si {pins : List (Addr × Obj)} {σ : L2.St} {H : Hp} {s : Shared} {E : Value → Shared → Prop} {D : Addr} {S : Int → Bool} {n : Nat} {z : Int} {tk : Tok} {Q : Value → Shared → Prop}
    (I : Inv X pins σ H s) (hD : H D = some (SetO X.w D S n)) (room : n + 1 < scanBound)
    (k : ∀ s', Inv X pins σ (upd H D (SetO X.w D (fun j => S j || decide (j = z)) (if S z = true then n else n + 1))) s' → Q .none s') :
    wpAny (model X.prog X.w) X.A (call (.builtin "set.add") [.ref D, .int z tk]) Q E s :=
  setR_add (setO_get I hD) room fun h' same R => by
    obtain ⟨o, _, _, _, eo, _⟩ := id R
    exact k _ (I.write (e := D) (t' := s.toks + 1) (by rw [hD]; trivial) (.inl rfl) (fun b u nb e => (same.2 b nb).trans e) ⟨o, eo⟩ (setO_new R))
set_option maxHeartbeats 4000000 in
theorem pe_si {elt tg iter : Expr} {ifs : List Expr} {scope : Scope} {own : List (PySem.Str × Nat)} {pos : Pos} {wi : TI} {g : TG} {tt : TT} {te : TE}
    (hc : X.calm = true) (hN : X.N.Nodup) (src : PI X tg iter wi) (bk : BlkOk X.N X.env.scope scope own)
    (pgs : ∀ (s : Shared) (H : Hp) (C : Addr) (cl : List (PySem.Str × Addr)) (fp : List Addr), PG (X.blk s H scope (compEnvC scope cl C X.env) fp) tg g)
    (pts : ∀ (s : Shared) (H : Hp) (C : Addr) (cl : List (PySem.Str × Addr)) (fp : List Addr), PTs (X.blk s H scope (compEnvC scope cl C X.env) fp) ifs tt)
    (pes : ∀ (s : Shared) (H : Hp) (C : Addr) (cl : List (PySem.Str × Addr)) (fp : List Addr), PE (X.blk s H scope (compEnvC scope cl C X.env) fp) elt te)
    (nofold : ∀ x, foldedSetIterable iter X.env x = pure x := by intro _; rfl) :
    PE X (.SetComp elt [⟨tg, iter, ifs, 0⟩] scope pos) (tSi X.w wi g tt te (own.map (·.2))) := by
  refine ⟨fun pins s σ H Q I rd => ?_⟩
  rw [PpSet.eval_SetComp]
  have caught : ∀ y ∈ scope.names, y.2 = .free → ∃ c, X.env.cells.lookup y.1 = some c := fun y my ey =>
    (bk.free y my ey).elim (fun z => I.ok.has _ (.inl z)) fun z => I.ok.has _ (.inr z)
  refine wpAny_comprehension_free (use := none) rfl nofold (closure_ok caught) bk.kind (fun y my ey => by rw [bk.uniq y my, ey]) (thn (src.run pins s σ H _ I rd) fun v0 s1 r1 => thn r1 fun v1 s2 r2 => ?_)
  obtain ⟨it, fp, tn, J, Ha, rfl, Ia, Tn, tn0, fpa, more⟩ := r2
  refine PpSet.newSet_ok (newEnv_comp ?_)
  generalize eD : s2.heap.objs.size = D
  obtain ⟨W, ⟨k0, w0⟩, turns⟩ := more D (Ia.hok.fresh (Nat.le_of_eq eD))
  generalize e3 : ({ s2 with heap := s2.heap.push { cls := .type "set", dict := none, data := .set #[] 0 (.fresh 0 0 (!X.w.params.followText "set-order")) } } : Shared) = s3
  have Ib : Inv X pins σ (upd Ha D (SetO X.w D (fun _ => false) 0)) s3 := by
    subst e3
    refine Ia.laid (t' := s2.toks) (fun b o q => Heap.get?_push_of_some _ q) (Nat.le_of_eq eD) ?_
    subst eD
    exact setO_new (setR_fresh X.w)
  have q3 : s3.heap = s2.heap.push { cls := .type "set", dict := none, data := .set #[] 0 (.fresh 0 0 (!X.w.params.followText "set-order")) } := by subst e3; rfl
  have young : ∀ b ∈ fp, b < s2.heap.objs.size := fun b mb => by
    obtain ⟨o, eo, _⟩ := Tn.obj _ _ tn0 b mb
    exact Heap.lt_size eo
  have fpb : ∀ b ∈ fp, FpOk X pins (upd Ha D (SetO X.w D (fun _ => false) 0)) b ∧ b < s3.heap.objs.size := fun b mb => by
    have lt := young b mb
    have nb : b ≠ D := by rw [← eD]; exact Nat.ne_of_lt lt
    exact ⟨⟨by rw [upd_ne nb]; exact (fpa b mb).1, (fpa b mb).2⟩, by rw [q3, Heap.size_push]; exact Nat.lt_succ_of_lt lt⟩
  have tn3 : tn 0 s3.heap := Tn.keep _ _ _ tn0 fun b _ o eo => by rw [q3]; exact Heap.get?_push_of_some _ eo
  have Ic := block_start Ib bk hN fpb
  have kg := pgs s3 (upd Ha D (SetO X.w D (fun _ => false) 0)) s3.heap.objs.size (cellsFrom (s3.heap.objs.size + 1) scope.names (cloFrom X.env.cells scope.names [])) fp
  have kt := pts s3 (upd Ha D (SetO X.w D (fun _ => false) 0)) s3.heap.objs.size (cellsFrom (s3.heap.objs.size + 1) scope.names (cloFrom X.env.cells scope.names [])) fp
  have ke := pes s3 (upd Ha D (SetO X.w D (fun _ => false) 0)) s3.heap.objs.size (cellsFrom (s3.heap.objs.size + 1) scope.names (cloFrom X.env.cells scope.names [])) fp
  have nfp : ∀ b ∈ fp, (upd Ha D (SetO X.w D (fun _ => false) 0)) b = none := fun b mb => (fpb b mb).1.1
  show codeAny _ _ (.compStart (.SetComp elt [⟨tg, iter, ifs, 0⟩] scope pos) 0 (.ref it) (.ref D) (compEnvC scope (cellsFrom (s3.heap.objs.size + 1) scope.names (cloFrom X.env.cells scope.names [])) s3.heap.objs.size X.env))
    (compPost (model X.prog X.w) X.A X.xe none (EP X pins σ Q) (.ref D) s3.heap.objs.size) { s3 with heap := pushCells (s3.heap.push { cls := .type "dict", data := .dict #[] }) scope.names }
  generalize ec : compEnvC scope (cellsFrom (s3.heap.objs.size + 1) scope.names (cloFrom X.env.cells scope.names [])) s3.heap.objs.size X.env = cenv at Ic kg kt ke ⊢
  have locs : cenv.locals = s3.heap.objs.size := by subst ec; rfl
  generalize eH : upd Ha D (SetO X.w D (fun _ => false) 0) = Hs at Ib Ic kg kt ke w0 nfp fpb
  generalize e4 : ({ s3 with heap := pushCells (s3.heap.push { cls := .type "dict", data := .dict #[] }) scope.names } : Shared) = s4 at Ic ⊢
  have tn4 : tn 0 s4.heap := Tn.keep _ _ _ tn3 fun b _ o eo => by subst e4; exact pushCells_keeps _ _ _ _ (Heap.get?_push_of_some _ eo)
  have still : ∀ {τ : L2.St} {Hx : Hp} {sx : Shared}, Inv (X.blk s3 Hs scope cenv fp) [] τ Hx sx → (∀ b ∈ fp, Hx b = none) → ∀ b ∈ fp, FpOk (X.blk s3 Hs scope cenv fp) [] Hx b := fun {τ Hx sx} Ix nx b mb =>
    ⟨nx b mb, (Ix.ok.exf b mb).1, Ix.ok.exfs b mb, .inl mb, (fun x c ex => (Ix.ok.exf b mb).2 x c ex), fun p mp => absurd (show p ∈ ([] : List (Addr × Obj)) ++ [] from mp) (by simp)⟩
  have walk : codeAny (model X.prog X.w) X.A (.compLoop (.SetComp elt [⟨tg, iter, ifs, 0⟩] scope pos) 0 (.ref it) (.ref D) cenv) (compPost (model X.prog X.w) X.A X.xe none (EP X pins σ Q) (.ref D) s3.heap.objs.size) s4 := by
    refine PpSet.compLoopS_any (fun k sx => ∃ i Hx, Inv (X.blk s3 Hs scope cenv fp) [] (wipe σ (own.map (·.2))) Hx sx ∧ tn i sx.heap ∧ (∀ b ∈ fp, Hx b = none) ∧ W i k Hx) ?_ k0 ⟨0, Hs, Ic, tn4, nfp, w0⟩
    rintro k s5 ⟨i, H5, I5, tn5, n5, w5⟩
    rcases turns i k H5 w5 with ⟨stop, q⟩ | ⟨go, Nx, down, step⟩
    · refine thnF (Tn.done (X.blk s3 Hs scope cenv fp) rfl rfl rfl hc i [] s5 _ H5 (fun _ _ => False) I5 (still I5 n5) tn5 stop) fun r s6 ⟨er, I6⟩ => ?_
      subst er
      have I7 : Inv X pins σ H5 s6 := Ib.call' (ch := fp) I6.os I6.base I6.hok I6.bare fun b mb => ⟨(fpb b mb).1.2.2.2.1, (fpb b mb).1.2.1, (fpb b mb).1.2.2.2.2.1, (fpb b mb).1.2.2.2.2.2⟩
      have gone : H5 s3.heap.objs.size = none := by
        have z : H5 cenv.locals = none := I6.free
        rw [locs] at z; exact z
      obtain ⟨mm, ns, _⟩ := I6.loc
      have ns : s6.heap.Ns cenv.locals mm := ns
      rw [locs] at ns
      obtain ⟨f0, f1, f2, f3, f4, f5⟩ := Ib.fpOk (Nat.le_refl _) gone
      exact ⟨mm, ns, fun h'' sb => ⟨.ref D, H5, I7.turned (t' := s6.toks) (fun b o nb eo => (sb.2 b nb).trans eo) f0 f1 f3 f4 f5, rfl, q⟩⟩
    · refine thnF (Tn.item (X.blk s3 Hs scope cenv fp) rfl rfl rfl hc i [] s5 _ H5 (fun _ _ => False) I5 (still I5 n5) tn5 go) fun r s6 ⟨u, er, r6⟩ => ?_
      subst er
      refine thnF r6 fun _ s7 ⟨x, H7, I7, r7, y7, tn7, n7⟩ => ?_
      refine thnF (kg.run _ s7 _ H7 x u _ (I7.pinned (still I7 n7) (Tn.obj _ _ tn7)) r7 (step x H7 y7)) fun _ s8 ⟨σ8, H8, I8, ew, q8⟩ => ?_
      refine thnF (kt.run _ s8 σ8 H8 _ I8 q8) fun b s9 ⟨H9, I9, q9⟩ => ?_
      have back : ∀ {sx : Shared} {Hx : Hp}, Inv (X.blk s3 Hs scope cenv fp) ([] ++ pinsAt fp s7.heap) σ8 Hx sx → Nx Hx → ∃ k', k' < k ∧ ∃ i Hx, Inv (X.blk s3 Hs scope cenv fp) [] (wipe σ (own.map (·.2))) Hx sx ∧ tn i sx.heap ∧ (∀ b ∈ fp, Hx b = none) ∧ W i k' Hx := fun {sx Hx} Ix nx => by
        obtain ⟨k', lt, w'⟩ := down Hx nx
        have pinned : ∀ b ∈ fp, ∀ o, s7.heap.get? b = some o → sx.heap.get? b = some o ∧ Hx b = none := fun b mb o eo =>
          let z := Ix.pin (b, o) (List.mem_append_right _ (List.mem_append_right _ (mem_pinsAt mb eo)))
          ⟨z.1, z.2.1⟩
        have len : (wipe σ (own.map (·.2))).length = σ8.length := by rw [← ew, wipe_length]
        refine ⟨k', lt, i + 1, Hx, (Ix.unpinned (pins := [])).weak len (fun j v ej => ?_), Tn.keep _ _ _ tn7 fun b mb o eo => (pinned b mb o eo).1, fun b mb => ?_, w'⟩
        · rw [← ew] at ej; exact (wipe_some ej).1
        · obtain ⟨o, eo, _⟩ := Tn.obj _ _ tn7 b mb
          exact (pinned b mb o eo).2
      cases b with
      | false => exact back I9 q9
      | true =>
        refine thnF (ke.run _ s9 σ8 H9 _ I9 q9) fun uv s10 ⟨yv, H10, I10, r10, z, S0, m0, ey, hD10, room, nx⟩ => ?_
        subst ey
        obtain ⟨tk, rfl⟩ := r10
        exact add_si (X := X.blk s3 Hs scope cenv fp) I10 hD10 room fun s11 I11 => back I11 nx
  exact PpSet.codeAny_compStart_set walk (Tn.self X.A 0 _ _ _ tn4 walk)
/-- set(a tuple of whole numbers) -/
def rSetT (K : PySem.W.Frag) (w : World) : List V → Hp → VK → Prop := fun vs H Q => ∃ (p : Addr) (ns : List Int), vs = [.ref p] ∧ SqT K H p (ns.map V.int) ∧ ns.length ≤ 1000 ∧
  ∀ (q : Addr) (c : Nat), H q = none → c ≤ ns.length → Q (.ref q) (upd H q (SetO w q (fun j => decide (j ∈ ns)) c))
theorem ints_are : ∀ {ns : List Int} {us : List Value}, Vals (ns.map V.int) us → IntsAre us ns
  | [], _, .nil => .nil
  | n :: r, _, .cons ⟨t, e⟩ b => by subst e; exact .cons n t (ints_are b)
theorem cr_setT (hc : X.calm = true) : CallR X (.type "set") (rSetT X.K X.w) := by
  intro pins s σ H vs us Q I rv rd
  obtain ⟨p, ns, rfl, ht, hz, q⟩ := rd
  rw [Vals.ref1 rv]
  obtain ⟨its, r, tp, _⟩ := I.tuple ht
  have bound : ns.length + 1 < scanBound := Nat.lt_of_le_of_lt (Nat.succ_le_succ hz) (by decide)
  refine call_set_tupI ns (I.ok.hd hc) tp (by exact ints_are r) bound fun h' tk c R hcn keep => ?_
  exact ⟨.ref _, _, I.laid (t' := tk) keep (Nat.le_refl _) (setO_new R), rfl, q _ c (I.hok.fresh (Nat.le_refl _)) hcn⟩
end

section
variable {K : PySem.W.Frag} {w : World} {X : WX} {env env1 : List SV} {ta tb te tl : TE} {tt : TT} {d e : PyData} {xs ys ds : List PyData} {S : Int → Bool} {m : Nat}
/-- te gives a set of whole numbers, of at most m -/
def EvS (K : PySem.W.Frag) (w : World) (te : TE) (env : List SV) (S : Int → Bool) (m : Nat) : Prop := ∀ σ H H1, Stt K H H1 σ env → ∀ Q : VK, (∀ p n G H2, Fr0 H H1 G H2 → H2 p = some (SetO w p S n) → n ≤ m → Q (.ref p) H2) → te σ H1 Q
theorem es_setT {ns : List Int} (ha : Ev K ta env (.tuple (ns.map .int))) (hz : ns.length ≤ 1000) : EvS K w (tCB (rSetT K w) (tCons ta tNil)) env (fun j => decide (j ∈ ns)) ns.length := fun σ H H1 st Q q =>
  ha σ H H1 st _ fun v G H2 f d => by
    cases d with
    | @tup a vs _ ht hd =>
      have e := dpa_ints hd
      subst e
      exact ⟨a, ns, rfl, sqt f.r ht, hz, fun p c hp hcn => q p c G _ (f.tr0 (Fr.hid f.r hp)) upd_same hcn⟩
/-- two rising lists of the same members -/
theorem rising_one : ∀ {a b : List Int}, a.Pairwise (· < ·) → b.Pairwise (· < ·) → (∀ k, k ∈ a ↔ k ∈ b) → a = b
  | [], [], _, _, _ => rfl
  | [], y :: b, _, _, h => by have := (h y).2 List.mem_cons_self; cases this
  | x :: a, [], _, _, h => by have := (h x).1 List.mem_cons_self; cases this
  | x :: a, y :: b, ha, hb, h => by
    have ha' := List.pairwise_cons.mp ha
    have hb' := List.pairwise_cons.mp hb
    have exy : x = y := by
      rcases List.mem_cons.mp ((h x).1 List.mem_cons_self) with z | z
      · exact z
      · rcases List.mem_cons.mp ((h y).2 List.mem_cons_self) with u | u
        · exact u.symm
        · have := hb'.1 x z; have := ha'.1 y u; omega
    subst exy
    refine congrArg (x :: ·) (rising_one ha'.2 hb'.2 fun k => ⟨fun z => ?_, fun z => ?_⟩)
    · rcases List.mem_cons.mp ((h k).1 (List.mem_cons_of_mem _ z)) with u | u
      · have := ha'.1 k z; omega
      · exact u
    · rcases List.mem_cons.mp ((h k).2 (List.mem_cons_of_mem _ z)) with u | u
      · have := hb'.1 k z; omega
      · exact u
theorem eo_sortedS {L : List Int} (ha : EvS K w ta env S m) (hm : m < 64) (hp : L.Pairwise (· < ·)) (hL : ∀ k, k ∈ L ↔ S k = true) : EvO K (tCB (rSortedSet w) (tCons ta tNil)) env (L.map .int) := fun σ H H1 st Q q =>
  ha σ H H1 st _ fun p n G H2 f h2 hn => ⟨p, S, n, rfl, h2, by omega, fun ns r h3 h4 _ hr => by
    have e : ns = L := rising_one h3 hp fun k => (h4 k).trans (hL k).symm
    subst e
    exact q r _ G _ (f.tr0 (Fr.hid f.r hr)) (f.a.free hr) (f.r.free hr) upd_same (dpa_of_ints ns)⟩
/-- what a set comprehension has found behind some turns -/
def Fd (K : PySem.W.Frag) (w : World) (G0 H2 : Hp) (D : Addr) (ns : List Int) (H' : Hp) : Prop := ∃ G S n, Fr (fun p => p = D) G0 H2 G H' ∧ G D = none ∧ H' D = some (SetO w D S n) ∧ n ≤ ns.length ∧ ∀ k, S k = decide (k ∈ ns)
theorem take_nxt {α β : Type} {f : α → Bool} {v : α → β} {xs : List α} {i : Nat} {x : α} (h : xs[i]? = some x) : ((xs.take (i + 1)).filter f).map v = ((xs.take i).filter f).map v ++ (if f x = true then [v x] else []) := by
  rw [List.take_add_one, h, List.filter_append, List.map_append]
  show _ ++ List.map v (List.filter f [x]) = _
  cases e : f x with
  | true => rw [List.filter_cons, if_pos e]; rfl
  | false => rw [List.filter_cons, if_neg (by rw [e]; decide)]; rfl
theorem fd_turn {H2 H' G G0 : Hp} {D : Addr} {S : Int → Bool} {n : Nat} {ns : List Int} {z₀ : Int} {b : Bool} {σ2 : L2.St} (f : Fr (fun p => p = D) G0 H2 G H') (hG : G D = none) (ha : H' D = some (SetO w D S n)) (hn : n ≤ ns.length) (hS : ∀ k, S k = decide (k ∈ ns)) (hz : ns.length < 1000)
    (st : Stt K G H' σ2 env1) (ht : EvT K tt env1 b) (he : b = true → Ev K te env1 (.int z₀)) :
    tt σ2 H' fun k H3 => if k = true then te σ2 H3 fun y H4 => ∃ (z : Int) (S : Int → Bool) (n : Nat), y = .int z ∧ H4 D = some (SetO w D S n) ∧ n + 1 < scanBound ∧ Fd K w G0 H2 D (ns ++ (if b = true then [z₀] else [])) (upd H4 D (SetO w D (fun j => S j || decide (j = z)) (if S z = true then n else n + 1))) else Fd K w G0 H2 D (ns ++ (if b = true then [z₀] else [])) H3 := by
  refine ht σ2 G H' st _ fun G1 H3 f1 => ?_
  have D1 : G1 D = none := f1.n D (fun z => z) hG (by rw [ha]; exact fun z => nomatch z)
  cases b with
  | true =>
    show te σ2 H3 _
    refine he rfl σ2 G1 H3 (st.mono f1) _ fun y G2 H4 f2 d2 => ?_
    cases d2
    have a3 := f1.a _ _ ha
    have D2 : G2 D = none := f2.n D (fun z => z) D1 (by rw [a3]; exact fun z => nomatch z)
    have f3 := (f.tr0 f1).tr0 f2
    refine ⟨z₀, S, n, rfl, f2.a _ _ a3, Nat.lt_of_lt_of_le (by omega : n + 1 < 1002) (by decide), G2, _, _, ⟨f3.g, fun p o e => ?_, fun p o nw e => ?_, f3.n, fun p e => f3.m p (upd_none e)⟩, D2, upd_same, ?_, fun k => ?_⟩
    · rw [upd_ne (ne_of_none e D2)]; exact f3.r p o e
    · rw [upd_ne (show p ≠ D from nw)]; exact f3.s p o nw e
    · show _ ≤ (ns ++ [z₀]).length
      rw [List.length_append]
      split <;> (simp only [List.length_cons, List.length_nil]; omega)
    · show (S k || decide (k = z₀)) = decide (k ∈ ns ++ [z₀])
      rw [hS k, Bool.eq_iff_iff]
      simp only [Bool.or_eq_true, decide_eq_true_eq, List.mem_append, List.mem_singleton]
  | false =>
    show Fd K w G0 H2 D (ns ++ []) H3
    rw [List.append_nil]
    exact ⟨G1, S, n, f.tr0 f1, D1, f1.a _ _ ha, hn, hS⟩
theorem es_si {α : Type} (xs : List α) (en : α → PyData) (f : α → Bool) (v : α → Int) {g : TG} {vs : List Nat} (h : Ev K tl env (.list (xs.map en))) (hz : xs.length < 1000) (turn : ∀ x ∈ xs, ∃ env', Tgw K vs g (wipeE env vs) (en x) env' ∧ EvT K tt env' (f x) ∧ (f x = true → Ev K te env' (.int (v x)))) :
    EvS K w (tSi w (iList K tl) g tt te vs) env (fun k => decide (k ∈ (xs.filter f).map v)) xs.length := fun σ H H1 st Q q => by
  refine h σ H H1 st _ fun v0 G0 H2 f0 dv => ?_
  cases dv with
  | @lst a as _ hl hd =>
    refine ⟨a, rfl, ⟨as, f0.r.seq hl⟩, fun D hD => ?_⟩
    have st0 := st.mono f0
    have nD : ∀ l, Ow (L2.wipe σ vs) (wipeE env vs) l → ¬ l = D := fun l z e => by
      have := (st0.owned (Ow.wipe z)).2
      exact this (by rw [e]; exact hD)
    have hlen : as.length = xs.length := by rw [dpa_len hd, List.length_map]
    have short : ∀ i, (((xs.take i).filter f).map v).length ≤ xs.length := fun i => by
      rw [List.length_map]
      exact Nat.le_trans (List.length_filter_le _ _) (by rw [List.length_take]; omega)
    refine ⟨fun i k H' => k = xs.length - i ∧ i ≤ xs.length ∧ Fd K w G0 H2 D (((xs.take i).filter f).map v) H', ⟨xs.length, rfl, Nat.zero_le _, G0, _, 0, Fr.hid f0.r hD, f0.r.free hD, upd_same, Nat.zero_le _, fun k => by simp⟩, ?_⟩
    rintro i k H' ⟨rfl, hi, G, S, n, f1, hG, ha, hn, hS⟩
    have hq : SqL K H' a as := f1.r.seq (f1.g.seq hl)
    by_cases hlt : i < xs.length
    · have hia : i < as.length := by omega
      refine .inr ⟨⟨as, as[i], hq, List.getElem?_eq_getElem hia⟩, Fd K w G0 H2 D (((xs.take (i + 1)).filter f).map v), fun Hx p => ⟨xs.length - (i + 1), by omega, rfl, hlt, p⟩, fun x Hx y => ?_⟩
      obtain ⟨rfl, yx⟩ := y
      obtain ⟨d, e1, e2⟩ := dpa_get hd (yx as hq)
      rw [List.getElem?_map, List.getElem?_eq_getElem hlt] at e1
      obtain rfl := Option.some.inj e1
      obtain ⟨env', tg, ht, he⟩ := turn xs[i] (List.getElem_mem hlt)
      refine tg _ G Hx x ((st0.wipe vs).monoW f1 nD) (dm f1.g e2) _ fun σ' st' o hw => ⟨?_, ?_⟩
      · rw [hw]; exact wipe_wipe fun _ z => z
      · rw [take_nxt (List.getElem?_eq_getElem hlt)]
        exact fd_turn f1 hG ha hn hS (Nat.lt_of_le_of_lt (short i) hz) st' ht he
    · have ei : i = xs.length := by omega
      subst ei
      refine .inl ⟨⟨as, hq, by omega⟩, ?_⟩
      rw [List.take_length] at hn hS
      have ff : Fr0 H H1 G H' := f0.trans f1 fun p z => .inr (by rw [z]; exact f0.a.free hD)
      have eS : S = fun k => decide (k ∈ (xs.filter f).map v) := funext hS
      subst eS
      refine q D n G H' ff ha (Nat.le_trans hn ?_)
      have := short xs.length
      rwa [List.take_length] at this
end
end Pf

namespace Pf
open PySem PySem.Spec PyProof.Rows L2

section
variable {K : PySem.W.Frag} {X : WX} {env env1 env2 : List SV} {ta tb tc te tl th : TE} {t u ts : TS} {tt : TT} {d e : PyData} {i j : Int} {xs ys ds : List PyData} {oc : Oc}
/-! ### slices of lists -/
theorem ep_no : EvP K tNoPart env none := fun σ H H1 st Q q => q H H1 (Fr.refl st.e)
theorem ep_at (h : Ev K te env (.int i)) : EvP K (tPart te) env (some i) := fun σ H H1 st Q q => h σ H H1 st _ fun v G H2 f d => by cases d; exact ⟨i, rfl, q G H2 f⟩
def cutD (xs : List PyData) (lo hi : Option Int) : List PyData := (xs.drop (HT.sIx xs.length 0 lo)).take (HT.sIx xs.length xs.length hi - HT.sIx xs.length 0 lo)
theorem eo_slice {a b : TO} {lo hi : Option Int} (h : Ev K te env (.list xs)) (ha : EvP K a env lo) (hb : EvP K b env hi) : EvO K (tSl (rSlL K) te a b) env (cutD xs lo hi) := fun σ H H1 st Q q =>
  h σ H H1 st _ fun v G H2 f d => ha σ G H2 (st.mono f) _ fun G2 H3 f2 => hb σ G2 H3 ((st.mono f).mono f2) _ fun G3 H4 f3 => by
    cases d with
    | @lst a vs _ hl hd =>
      have ff := (f.tr0 f2).tr0 f3
      refine ⟨a, vs, rfl, f3.r.seq ((f2.g.trans f3.g).seq hl), fun p hp => ?_⟩
      refine q p _ G3 _ (ff.tr0 (Fr.hid f3.r hp)) (ff.a.free hp) (f3.r.free hp) upd_same ?_
      unfold cutV cutD
      rw [dpa_len hd]
      exact dpa_take _ (dpa_drop _ (dms (f2.g.trans f3.g) hd))
/-! ### in -/
def flatD : PyData → Bool
  | .none => true
  | .int _ => true
  | .str _ => true
  | _ => false
def eqF : PyData → PyData → Bool
  | .none, .none => true
  | .int i, .int j => decide (i = j)
  | .str x, .str y => decide (x = y)
  | _, _ => false
theorem flat_dp {H : Hp} {v : V} (h : Dp K H v d) (f : flatD d = true) : flatV v = true := by cases h <;> first | rfl | exact absurd f Bool.false_ne_true
theorem eqf_dp {H : Hp} {v w : V} (h : Dp K H v d) (k : Dp K H w e) (f : flatD d = true) (g : flatD e = true) : eqV v w = eqF d e := by
  cases h <;> cases k <;> first
    | exact absurd f Bool.false_ne_true
    | exact absurd g Bool.false_ne_true
    | rfl
    | (show (_ == _) = decide (_ = _); rw [Bool.eq_iff_iff]; simp)
theorem in_dp {H : Hp} {v : V} : ∀ {vs : List V} {ds : List PyData}, Dp K H v d → DpAll K H vs ds → flatD d = true → ds.all flatD = true → vs.all flatV = true ∧ inV v vs = ds.any fun z => eqF z d
  | _, _, _, .nil, _, _ => ⟨rfl, rfl⟩
  | _, _, h, .cons a b, f, g => by
    rw [List.all_cons, Bool.and_eq_true] at g
    obtain ⟨e1, e2⟩ := in_dp h b f g.2
    refine ⟨?_, ?_⟩
    · rw [List.all_cons, flat_dp a g.1, e1]; rfl
    · unfold inV at e2 ⊢
      rw [List.any_cons, List.any_cons, e2, eqf_dp a h g.1 f]
theorem ev_inT (ha : Ev K ta env d) (hb : Ev K tb env (.tuple ds)) (f : flatD d = true) (g : ds.all flatD = true) : Ev K (tOp (rIn K false) ta tb) env (.bool (ds.any fun z => eqF z d)) :=
  ev_op ha hb fun x y H H1 Q s d1 d2 q => by
    cases d2 with
    | tup hl hd =>
      obtain ⟨e1, e2⟩ := in_dp d1 hd f g
      refine ⟨_, _, rfl, .inr (sqt s hl), flat_dp d1 f, e1, ?_⟩
      show Q (.bl (inV x _)) H1
      rw [e2]; exact q _ H H1 (Fr.refl s) (.bl _)
theorem ev_inL (ha : Ev K ta env d) (hb : Ev K tb env (.list ds)) (f : flatD d = true) (g : ds.all flatD = true) : Ev K (tOp (rIn K false) ta tb) env (.bool (ds.any fun z => eqF z d)) :=
  ev_op ha hb fun x y H H1 Q s d1 d2 q => by
    cases d2 with
    | lst hl hd =>
      obtain ⟨e1, e2⟩ := in_dp d1 hd f g
      refine ⟨_, _, rfl, .inl (s.seq hl), flat_dp d1 f, e1, ?_⟩
      show Q (.bl (inV x _)) H1
      rw [e2]; exact q _ H H1 (Fr.refl s) (.bl _)
theorem ev_niT (ha : Ev K ta env d) (hb : Ev K tb env (.tuple ds)) (f : flatD d = true) (g : ds.all flatD = true) : Ev K (tOp (rIn K true) ta tb) env (.bool (!ds.any fun z => eqF z d)) :=
  ev_op ha hb fun x y H H1 Q s d1 d2 q => by
    cases d2 with
    | tup hl hd =>
      obtain ⟨e1, e2⟩ := in_dp d1 hd f g
      refine ⟨_, _, rfl, .inr (sqt s hl), flat_dp d1 f, e1, ?_⟩
      show Q (.bl (!inV x _)) H1
      rw [e2]; exact q _ H H1 (Fr.refl s) (.bl _)
theorem ev_niL (ha : Ev K ta env d) (hb : Ev K tb env (.list ds)) (f : flatD d = true) (g : ds.all flatD = true) : Ev K (tOp (rIn K true) ta tb) env (.bool (!ds.any fun z => eqF z d)) :=
  ev_op ha hb fun x y H H1 Q s d1 d2 q => by
    cases d2 with
    | lst hl hd =>
      obtain ⟨e1, e2⟩ := in_dp d1 hd f g
      refine ⟨_, _, rfl, .inl (s.seq hl), flat_dp d1 f, e1, ?_⟩
      show Q (.bl (!inV x _)) H1
      rw [e2]; exact q _ H H1 (Fr.refl s) (.bl _)
/-- data in a list of data -/
theorem ev_inD (ha : Ev K ta env d) (hb : Ev K tb env (.list ds)) (f : SeqAt.shaped d = true) (g : SeqAt.shaped (.list ds) = true) : Ev K (tOp (rInD K) ta tb) env (.bool (ds.any fun z => PyData.eqv z d)) :=
  ev_op ha hb fun x y H H1 Q s d1 d2 q => ⟨d, ds, dm s d1, dm s d2, f, g, q _ H H1 (Fr.refl s) (.bl _)⟩
/-- tuple + tuple -/
theorem ev_catT (ha : Ev K ta env (.tuple xs)) (hb : Ev K tb env (.tuple ys)) (hl : xs.length + ys.length ≤ 100000) : Ev K (tOp (rCatA K) ta tb) env (.tuple (xs ++ ys)) :=
  ev_op ha hb fun x y H H1 Q s d1 d2 q => by
    cases d1 with
    | @tup a vs _ l1 h1 =>
      cases d2 with
      | @tup b ws _ l2 h2 =>
        refine ⟨a, b, vs, ws, rfl, rfl, sqt s l1, sqt s l2, sz_ok (by rw [dpa_len h1, dpa_len h2]; exact hl), fun e => ?_, fun _ e => ?_, fun _ _ p hp => ?_⟩
        · subst e
          cases h1
          exact q _ H H1 (Fr.refl s) (.tup l2 h2)
        · subst e
          cases h2
          rw [List.append_nil] at q
          exact q _ H H1 (Fr.refl s) (.tup l1 h1)
        · have n : Fr0 H H1 (upd H p (.tup (vs ++ ws))) (upd H1 p (.tup (vs ++ ws))) := Fr.new s hp
          exact q _ _ _ n (.tup (.inl (.inl upd_same)) (dms n.g (dpa_app h1 h2)))
/-! ### for over a tuple -/
theorem sx_forT {g : TG} (h : Ev K tl env (.tuple ds)) (Inv : Nat → List SV) (h0 : Inv 0 = env) (go : ∀ (i : Nat) (d : PyData), ds[i]? = some d → ∃ env', Tg K g (Inv i) d env' ∧ Go K X t env' (Inv (i + 1))) : Sx K X (tFor (iTup K tl) g t) env (.nx (Inv ds.length)) := fun σ H H1 st D q => by
  refine h σ H H1 st _ fun v G0 H2 f dv => ?_
  cases dv with
  | @tup a vs _ hl hd =>
    have f' : Fr (Ow σ env) H H1 G0 H2 := f.mono fun _ z => z.elim
    have stay : ∀ {G H' : Hp}, Fr (Ow σ env) G0 H2 G H' → SqT K H' a vs := fun {G H'} f2 => sqt f2.r (sqt f2.g hl)
    refine ⟨a, rfl, ⟨vs, sqt f.r hl⟩, for_tup (K := K) (a := a) (xs := vs) (Pt K (Ow σ env) G0 H2 Inv) ⟨G0, Fr.refl f.r, by rw [h0]; exact st.mono f, fun l z => .inl (by rw [h0] at z; exact z)⟩ (fun i σ' H' _ p => ?_) (fun i x σ' H' hi p => ?_) (fun σ' H' p => ?_)⟩
    · obtain ⟨G, f2, _, _⟩ := p
      exact stay f2
    · obtain ⟨G, f2, st2, ow⟩ := p
      obtain ⟨d, e1, e2⟩ := dpa_get hd hi
      obtain ⟨env', tg, g1⟩ := go i d e1
      refine tg σ' G H' x st2 (dm f2.g e2) _ fun σ2 st3 o3 => ?_
      have ow3 : ∀ l, Ow σ2 env' l → Ow σ env l ∨ H2 l = none := fun l z => ow l (o3 l z)
      have nx : ∀ σ3 G3 H3, Fr (Ow σ2 env') G H' G3 H3 → Stt K G3 H3 σ3 (Inv (i + 1)) → (∀ l, Ow σ3 (Inv (i + 1)) l → Ow σ2 env' l ∨ H' l = none) → Pt K (Ow σ env) G0 H2 Inv (i + 1) σ3 H3 := fun σ3 G3 H3 f3 st4 o4 =>
        ⟨G3, f2.trans f3 ow3, st4, fun l z => (o4 l z).elim (ow3 l) fun z => .inr (f2.m l z)⟩
      rcases g1 with w | w
      · exact w σ2 G H' st3 _ nx
      · exact w σ2 G H' st3 _ nx
    · obtain ⟨G, f2, st2, ow⟩ := p
      rw [dpa_len hd] at st2 ow
      exact q σ' G H' (f'.trans f2 fun l z => .inl z) st2 fun l z => (ow l z).elim .inl fun z => .inr (f.m l z)
/-! ### try .. except X as n -/
theorem sx_tryas_ok {cl : Value} {n : Nat} {tbb : WX → TS} {tss : Addr → Value → Option Addr → TS} (h : ∀ X', Sx K X' (tbb X') env oc) (e : oc.isEx = false) : Sx K X (fun D σ H => tbb (wAs K cl n tss X D) D σ H) env oc := fun σ H H1 st D q =>
  h _ σ H H1 st D (q.wx e)
/-- the suite gives data back; its own name holds the exception -/
theorem sx_tryas_ret {cl c : Value} {n : Nat} {tbb : WX → TS} {tss : Addr → Value → Option Addr → TS} (h : ∀ X', Sx K X' (tbb X') env (.ex c env1)) (hm : PySem.W.exmOne K c cl = some true)
    (hs : ∀ a σ G H2, Stt K G H2 σ env1 → H2 a = none → ∀ (D : Ends), (∀ v G3 H3, Fr0 G H2 G3 H3 → Dp K G3 v d → D.rt v H3) → tss a c none D (σ.set n (some (.ref a))) H2) : Sx K X (fun D σ H => tbb (wAs K cl n tss X D) D σ H) env (.rt d) := fun σ H H1 st D q =>
  h _ σ H H1 st D fun σ' G H2 f st' o => ⟨true, hm, fun _ a ha => hs a σ' G H2 st' ha _ fun v G3 H3 f3 d3 => q v G3 H3 (f.tr0 f3) d3, fun z => nomatch z⟩
end
/-- steps of an evaluation -/
theorem cm1 {i j : Int} (h : -(2 ^ 64) < j ∧ j < 2 ^ 64) : CMul i j := .inr h
theorem cm0 {i j : Int} (h : -(2 ^ 64) < i ∧ i < 2 ^ 64) : CMul i j := .inl h
end Pf

namespace Pf
open PySem PySem.Spec PyProof.Rows L2
/-! ### data that == compares as it is -/
mutual
/-- no truth value, no dict within; texts as they may be -/
def nb : PyData → Bool
  | .none => true
  | .int _ => true
  | .str x => PyData.canLay0 (.str x)
  | .list xs => nbs xs
  | .tuple xs => nbs xs
  | _ => false
def nbs : List PyData → Bool
  | [] => true
  | x :: r => nb x && nbs r
end
mutual
theorem nb_lay : ∀ d : PyData, nb d = true → d.canLay0 = true
  | .none, _ => by simp [PyData.canLay0]
  | .int _, _ => by simp [PyData.canLay0]
  | .str x, h => by simpa [nb] using h
  | .list xs, h => by simp only [PyData.canLay0]; exact nbs_lay xs (by simpa [nb] using h)
  | .tuple xs, h => by simp only [PyData.canLay0]; exact nbs_lay xs (by simpa [nb] using h)
  | .bool _, h => by simp [nb] at h
  | .dict _, h => by simp [nb] at h
theorem nbs_lay : ∀ xs : List PyData, nbs xs = true → PyData.canLayAll0 xs = true
  | [], _ => by simp [PyData.canLayAll0]
  | x :: r, h => by
    have h' : nb x = true ∧ nbs r = true := by simpa [nbs] using h
    simp only [PyData.canLayAll0, nb_lay x h'.1, nbs_lay r h'.2, Bool.and_self]
end
mutual
theorem eqv_iff : ∀ d e : PyData, nb d = true → nb e = true → (PyData.eqv d e = true ↔ d = e)
  | .none, e, _, h => by cases e <;> simp_all [PyData.eqv, nb]
  | .int i, e, _, h => by cases e <;> simp_all [PyData.eqv, nb]
  | .str x, e, _, h => by cases e <;> simp_all [PyData.eqv, nb]
  | .list xs, e, g, h => by
    cases e with
    | list ys =>
      rw [PyData.eqv, eqvs_iff xs ys (by simpa [nb] using g) (by simpa [nb] using h)]
      simp
    | _ => simp_all [PyData.eqv, nb]
  | .tuple xs, e, g, h => by
    cases e with
    | tuple ys =>
      rw [PyData.eqv, eqvs_iff xs ys (by simpa [nb] using g) (by simpa [nb] using h)]
      simp
    | _ => simp_all [PyData.eqv, nb]
  | .bool _, _, g, _ => by simp [nb] at g
  | .dict _, _, g, _ => by simp [nb] at g
theorem eqvs_iff : ∀ xs ys : List PyData, nbs xs = true → nbs ys = true → (PyData.eqvAll xs ys = true ↔ xs = ys)
  | [], [], _, _ => by simp [PyData.eqvAll]
  | [], _ :: _, _, _ => by simp [PyData.eqvAll]
  | _ :: _, [], _, _ => by simp [PyData.eqvAll]
  | x :: xs, y :: ys, g, h => by
    have g' : nb x = true ∧ nbs xs = true := by simpa [nbs] using g
    have h' : nb y = true ∧ nbs ys = true := by simpa [nbs] using h
    rw [PyData.eqvAll, Bool.and_eq_true, eqv_iff x y g'.1 h'.1, eqvs_iff xs ys g'.2 h'.2]
    simp
end
/-- such data of at most this depth -/
def Sh (n : Nat) (d : PyData) : Prop := nb d = true ∧ d.depth ≤ n
theorem nbs_all : ∀ {xs : List PyData}, (∀ x ∈ xs, nb x = true) → nbs xs = true
  | [], _ => by simp [nbs]
  | x :: r, h => by
    simp only [nbs, Bool.and_eq_true]
    exact ⟨h x List.mem_cons_self, nbs_all fun y hy => h y (List.mem_cons_of_mem _ hy)⟩
theorem depths_all {n : Nat} : ∀ {xs : List PyData}, (∀ x ∈ xs, x.depth ≤ n) → PyData.depthAll xs ≤ n
  | [], _ => by simp [PyData.depthAll]
  | x :: r, h => by
    simp only [PyData.depthAll]
    have h1 := h x List.mem_cons_self
    have h2 := depths_all (n := n) (xs := r) fun y hy => h y (List.mem_cons_of_mem _ hy)
    omega
theorem sh_none {n : Nat} : Sh n .none := ⟨by simp [nb], by simp [PyData.depth]⟩
theorem sh_int {n : Nat} {i : Int} : Sh n (.int i) := ⟨by simp [nb], by simp [PyData.depth]⟩
theorem sh_tup {n : Nat} {xs : List PyData} (h : ∀ x ∈ xs, Sh n x) : Sh (n + 1) (.tuple xs) :=
  ⟨by simp only [nb]; exact nbs_all fun x hx => (h x hx).1, by simp only [PyData.depth]; exact Nat.succ_le_succ (depths_all fun x hx => (h x hx).2)⟩
theorem sh_lst {n : Nat} {xs : List PyData} (h : ∀ x ∈ xs, Sh n x) : Sh (n + 1) (.list xs) :=
  ⟨by simp only [nb]; exact nbs_all fun x hx => (h x hx).1, by simp only [PyData.depth]; exact Nat.succ_le_succ (depths_all fun x hx => (h x hx).2)⟩
theorem Sh.shaped {n : Nat} {d : PyData} (h : Sh n d) (hn : n ≤ 64) : SeqAt.shaped d = true := by
  show (d.canLay0 && decide (d.depth ≤ 64)) = true
  rw [nb_lay d h.1, decide_eq_true (Nat.le_trans h.2 hn)]; rfl
theorem sh_map {α : Type} {n : Nat} {f : α → PyData} {l : List α} (h : ∀ x ∈ l, Sh n (f x)) : ∀ y ∈ l.map f, Sh n y := fun y hy => by
  obtain ⟨x, hx, rfl⟩ := List.mem_map.mp hy
  exact h x hx
theorem sh2 {n : Nat} {a b : PyData} (ha : Sh n a) (hb : Sh n b) : Sh (n + 1) (.tuple [a, b]) := sh_tup fun x hx => by
  rcases List.mem_cons.mp hx with z | z
  · rw [z]; exact ha
  · rw [List.mem_singleton.mp z]; exact hb
theorem sh3 {n : Nat} {a b c : PyData} (ha : Sh n a) (hb : Sh n b) (hc : Sh n c) : Sh (n + 1) (.tuple [a, b, c]) := sh_tup fun x hx => by
  rcases List.mem_cons.mp hx with z | z
  · rw [z]; exact ha
  · rcases List.mem_cons.mp z with z | z
    · rw [z]; exact hb
    · rw [List.mem_singleton.mp z]; exact hc
/-- == of such data is equality -/
theorem eqv_dec {d e : PyData} {n m : Nat} (h : Sh n d) (k : Sh m e) {p : Prop} [Decidable p] (hp : p ↔ d = e) : PyData.eqv d e = decide p := by
  rw [Bool.eq_iff_iff, eqv_iff d e h.1 k.1, decide_eq_true_eq]; exact hp.symm
theorem map_inj {α : Type} {f : α → PyData} (hf : ∀ x y, f x = f y → x = y) {a b : List α} (h : a.map f = b.map f) : a = b := by
  induction a generalizing b with
  | nil => cases b with
    | nil => rfl
    | cons y r => cases h
  | cons x r ih => cases b with
    | nil => cases h
    | cons y s =>
      rw [List.map_cons, List.map_cons] at h
      injection h with h1 h2
      rw [hf x y h1, ih h2]
end Pf
namespace Pf
open PySem PySem.Spec PyProof.Rows L2
section
variable {K : PySem.W.Frag} {X : WX} {env env1 env2 : List SV} {te ta : TE} {t : TS} {tt : TT} {d : PyData} {xs : List PyData} {oc : Oc}
/-- less is known -/
inductive Less : List SV → List SV → Prop where
  | nil : Less [] []
  | keep {s : SV} {a b : List SV} : Less a b → Less (s :: a) (s :: b)
  | drop {s : SV} {a b : List SV} : Less a b → Less (.no :: a) (s :: b)
theorem Less.len : ∀ {a b : List SV}, Less a b → a.length = b.length
  | _, _, .nil => rfl
  | _, _, .keep h => congrArg Nat.succ h.len
  | _, _, .drop h => congrArg Nat.succ h.len
theorem Less.at : ∀ {a b : List SV}, Less a b → ∀ (i : Nat) s, a[i]? = some s → s = .no ∨ b[i]? = some s
  | _, _, .nil, i, s, h => by simp at h
  | _, _, .keep h, 0, s, e => .inr e
  | _, _, .keep h, i + 1, s, e => h.at i s (by simpa using e)
  | _, _, .drop h, 0, s, e => .inl (by simpa using e.symm)
  | _, _, .drop h, i + 1, s, e => h.at i s (by simpa using e)
theorem sx_lessL (l : Less env1 env) (k : Sx K X t env1 oc) : Sx K X t env oc := sx_less l.len l.at k
theorem go_less (k : Sx K X t env (.nx env1)) (l : Less env2 env1) : Go K X t env env2 := .inl (sx_nx_less l.len l.at k)
theorem nx_less (k : Sx K X t env (.nx env1)) (l : Less env2 env1) : Sx K X t env (.nx env2) := sx_nx_less l.len l.at k
theorem et_fix {b : Bool} (i : Nat) (h : env[i]? = some (.own xs)) (k : EvT K tt (env.set i (.dat (.list xs))) b) : EvT K tt env b := fun σ H H1 st Q q => by
  obtain ⟨l, vs, a, b, c, st'⟩ := st.freeze h
  exact k σ _ H1 st' Q fun G H2 f => q H H2 ⟨Same.refl _, (newS b).trans (f.g.trans f.r), f.s, fun _ _ z _ => z, f.m⟩
/-- tuple(a list of data) -/
theorem ev_tupleD (ha : Ev K ta env (.list xs)) : Ev K (tCB (fun xs H Q => ∃ p ys, xs = [.ref p] ∧ ((SqL K H p ys ∧ ∀ l, H l = none → Q (.ref l) (upd H l (.tup ys))) ∨ (SqT K H p ys ∧ Q (.ref p) H))) (tCons ta tNil)) env (.tuple xs) := fun σ H H1 st Q q =>
  ha σ H H1 st _ fun v G H2 f d => by
    cases d with
    | @lst p vs _ hl hd =>
      refine ⟨p, vs, rfl, .inl ⟨f.r.seq hl, fun l h => ?_⟩⟩
      have n : Fr0 G H2 (upd G l (.tup vs)) (upd H2 l (.tup vs)) := Fr.new f.r h
      exact q _ _ _ (f.tr0 n) (.tup (.inl (.inl upd_same)) (dms n.g hd))
theorem atI_map {α : Type} {f : α → PyData} {l : List α} {i : Int} (dflt : α) (h0 : 0 ≤ i) (h1 : i < l.length) : atI (l.map f) i = some (f (l.getD i.toNat dflt)) := by
  unfold atI ixN
  rw [if_pos h0, List.length_map, if_pos h1]
  show (l.map f)[i.toNat]? = _
  have h2 : i.toNat < l.length := by omega
  rw [List.getElem?_map, List.getD_eq_getElem?_getD, List.getElem?_eq_getElem h2]; rfl
end
end Pf
namespace Pf
open PySem PySem.Spec PyProof.Rows L2
/-- isinstance(e, c), e the exception that the suite holds, if it is one of D's own -/
def rIsX (K : PySem.W.Frag) (D a : Addr) (cls : Value) (d : Option Addr) : List V → Hp → VK → Prop := fun xs H Q => (cls = .ref D ∧ d = none) ∧ rIsE K D a xs H Q
theorem call_isX {X : Cx} {a D : Addr} {oe : Obj} {cls : Value} {d : Option Addr} {pn : List (Addr × Obj)} (C : ExcC X.K D) (hz : Zc cls d oe) (hf : ∃ vs, oe.data = .fields vs) : CallR (X.suite a ((a, oe) :: pn)) (.builtin "isinstance") (rIsX X.K D a cls d) := by
  intro pins s σ H xs us Q I r h
  obtain ⟨⟨rfl, rfl⟩, h⟩ := h
  exact call_isE C hz hf pins s σ H xs us Q I r h
end Pf
namespace Pf
open PySem PySem.Spec PyProof.Rows L2
theorem cutD_nat (xs : List PyData) (a b : Nat) (h : a ≤ b) : cutD xs (some (a : Int)) (some (b : Int)) = (xs.drop a).take (b - a) := by
  unfold cutD
  rw [HT.sIx_nat, HT.sIx_nat]
  by_cases c : a ≤ xs.length
  · rw [Nat.min_eq_left c]
    by_cases d : b ≤ xs.length
    · rw [Nat.min_eq_left d]
    · have e1 : (xs.drop a).length ≤ min b xs.length - a := by rw [List.length_drop]; omega
      have e2 : (xs.drop a).length ≤ b - a := by rw [List.length_drop]; omega
      rw [List.take_of_length_le e1, List.take_of_length_le e2]
  · have e1 : xs.drop a = [] := List.drop_eq_nil_of_le (by omega)
    have e2 : xs.drop (min a xs.length) = [] := List.drop_eq_nil_of_le (by omega)
    rw [e1, e2, List.take_nil, List.take_nil]
end Pf

namespace Pf
open PySem PySem.Spec PyProof.Rows L2
theorem kit_bi {K : PySem.W.Frag} {C : Addr} {t : String} {v : Bool} (h : PySem.W.subIn K (.ref C) (.type t) = some v) (m : PySem.W.kitMeta t = true) : PySem.W.kitOne K (.ref C) (.type t) = some v := by
  have q : (Value.ref C == Value.type t) = false := rfl
  unfold PySem.W.kitOne PySem.W.kitCls
  rw [q, if_neg Bool.false_ne_true]
  show (if PySem.W.kitMeta t = true then PySem.W.subIn K (.ref C) (.type t) else none) = some v
  rw [if_pos m]; exact h
theorem kit_own {K : PySem.W.Frag} {C D : Addr} {v : Bool} (h : PySem.W.subIn K (.ref C) (.ref D) = some v) (hc : PySem.W.subIn K (.ref C) (.ref C) = some true) (h2 : PySem.W.isClsIn K D = true) (h3 : PySem.W.typeIn K (.ref D) = some (.type "type")) : PySem.W.kitOne K (.ref C) (.ref D) = some v := by
  unfold PySem.W.kitOne
  by_cases e : C = D
  · subst e
    rw [hc] at h
    rw [if_pos (by exact beq_self_eq_true _)]; exact h
  · have q : (Value.ref C == Value.ref D) = false := by
      cases b : (Value.ref C == Value.ref D) with
      | false => rfl
      | true => exact absurd (Value.ref.inj (eq_of_beq b)) e
    rw [q, if_neg Bool.false_ne_true]
    have q2 : ((PySem.W.clsIn K D).isSome && PySem.W.typeIn K (.ref D) == some (.type "type")) = true := by
      have : (PySem.W.clsIn K D).isSome = true := h2
      rw [this, h3]; rfl
    show (if ((PySem.W.clsIn K D).isSome && PySem.W.typeIn K (.ref D) == some (.type "type")) = true then PySem.W.subIn K (.ref C) (.ref D) else none) = some v
    rw [if_pos q2]; exact h
end Pf
namespace Pf
open PySem PySem.Spec PyProof.Rows L2
section
variable {K : PySem.W.Frag} {env : List SV} {ta : TE}
theorem up_of_le : ∀ {l : List Int}, l.Pairwise (· ≤ ·) → l.Nodup → l.Pairwise (· < ·)
  | [], _, _ => List.Pairwise.nil
  | x :: r, h, d => by
    have h' := List.pairwise_cons.mp h
    have d' := List.nodup_cons.mp d
    refine List.pairwise_cons.mpr ⟨fun y hy => ?_, up_of_le h'.2 d'.2⟩
    have h1 := h'.1 y hy
    have h2 : x ≠ y := fun e => d'.1 (by rw [e]; exact hy)
    omega
theorem eo_sorted {ns L : List Int} (ha : EvL K ta env (ns.map .int)) (hn : ns.length < 64) (hd : ns.Nodup) (hL : L.Pairwise (· < ·)) (hm : ∀ k, k ∈ L ↔ k ∈ ns) : EvO K (tCB (rSorted K) (tCons ta tNil)) env (L.map .int) := fun σ H H1 st Q q =>
  ha σ H H1 st _ fun p vs G H2 f h2 dv => by
    have e := dpa_ints dv
    subst e
    refine ⟨p, ns, rfl, .inl (.inl h2), hn, fun ns' r hp hs hr => ?_⟩
    have e : ns' = L := rising_one (up_of_le hs (hp.nodup_iff.mpr hd)) hL fun k => hp.mem_iff.trans (hm k).symm
    subst e
    exact q r _ G _ (f.tr0 (Fr.hid f.r hr)) (f.a.free hr) (f.r.free hr) upd_same (dpa_of_ints ns')
end
end Pf

namespace Pf
open PySem PySem.Spec PyProof.Rows L2
section
variable {K : PySem.W.Frag} {X : WX} {env env1 env2 : List SV} {ta tb tc te tl : TE} {t u ts : TS} {tt : TT} {d e : PyData} {i j : Int} {xs ys ds : List PyData} {oc : Oc} {P M : Oc → Prop}
/-! ### one of several ends -/
def Sn (K : PySem.W.Frag) (X : WX) (ts : TS) (env : List SV) (P : Oc → Prop) : Prop := ∀ σ H H1, Stt K H H1 σ env → ∀ D : Ends, (∀ oc, P oc → OcOk K X (Ow σ env) D H H1 oc) → ts D σ H1
theorem sn_of (h : Sx K X t env oc) (hp : P oc) : Sn K X t env P := fun σ H H1 st D q => h σ H H1 st D (q oc hp)
theorem Sn.imp {P' : Oc → Prop} (h : Sn K X t env P) (i : ∀ oc, P oc → P' oc) : Sn K X t env P' := fun σ H H1 st D q => h σ H H1 st D fun oc p => q oc (i oc p)
theorem Sn.sx (h : Sn K X t env (· = oc)) : Sx K X t env oc := fun σ H H1 st D q => h σ H H1 st D fun oc' e => by rw [e]; exact q
theorem sn_seq {M : List SV → Prop} (h : Sn K X t env (fun oc => ∃ e, oc = .nx e ∧ M e)) (k : ∀ e, M e → Sn K X u e P) : Sn K X (tSeq t u) env P := fun σ H H1 st D q =>
  h σ H H1 st { D with nx := u D } fun oc ⟨e, eo, me⟩ => by
    subst eo
    exact fun σ' G H2 f st' o => k e me σ' G H2 st' D fun oc' p => (q oc' p).tr f o
theorem sn_seq1 (h : Sx K X t env (.nx env1)) (k : Sn K X u env1 P) : Sn K X (tSeq t u) env P :=
  sn_seq (M := (· = env1)) (sn_of h ⟨env1, rfl, rfl⟩) fun e he => by rw [he]; exact k
theorem sn_end (h : Sn K X t env P) (he : ∀ oc, P oc → oc.isNx = false) : Sn K X (tSeq t u) env P := fun σ H H1 st D q =>
  h σ H H1 st { D with nx := u D } fun oc p => by
    have q1 := q oc p
    have e1 := he oc p
    cases oc with
    | nx env => cases e1
    | bk env => exact q1
    | ct env => exact q1
    | ex c env => exact q1
    | rt d => exact q1
    | rl xs => exact q1
    | rr v => exact q1
    | rw vs e => exact q1
    | rk xs => exact q1
    | rg k xs rs => exact q1
    | ry P w kvs => exact q1
    | rb => exact q1
theorem sn_if {b : Bool} (h : EvT K tt env b) (h1 : b = true → Sn K X t env P) (h2 : b = false → Sn K X u env P) : Sn K X (tIfS tt t u) env P := fun σ H H1 st D q =>
  h σ H H1 st _ fun G H2 f => by
    cases b with
    | true => exact h1 rfl σ G H2 (st.mono f) D fun oc p => (q oc p).tr0 f
    | false => exact h2 rfl σ G H2 (st.mono f) D fun oc p => (q oc p).tr0 f
/-- if c: (ends), and what follows -/
theorem sn_when {b : Bool} (h : EvT K tt env b) (h1 : b = true → Sn K X t env P) (he : ∀ oc, P oc → oc.isNx = false) (h2 : b = false → Sn K X ts env P) : Sn K X (tSeq (tIfS tt t tNext) ts) env P := by
  cases b with
  | true => exact sn_end (sn_if h h1 fun z => nomatch z) he
  | false => exact sn_seq1 (sx_no h sx_next) (h2 rfl)
/-- if c: .., and what follows from either -/
theorem sn_ifs {b : Bool} {M : List SV → Prop} (h : EvT K tt env b) (h1 : b = true → Sn K X t env (fun oc => ∃ e, oc = .nx e ∧ M e)) (h2 : b = false → Sn K X u env (fun oc => ∃ e, oc = .nx e ∧ M e)) (h3 : ∀ e, M e → Sn K X ts e P) : Sn K X (tSeq (tIfS tt t u) ts) env P := sn_seq (sn_if h h1 h2) h3
theorem sn_fix (i : Nat) (h : env[i]? = some (.own xs)) (k : Sn K X t (env.set i (.dat (.list xs))) P) : Sn K X t env P := fun σ H H1 st D q => by
  obtain ⟨l, vs, a, b, c, st'⟩ := st.freeze h
  refine k σ _ H1 st' D fun oc p => (q oc p).tr ⟨newS b, st'.e, fun _ _ _ z => z, fun p nw hp _ => ?_, fun _ z => z⟩ fun p z => .inl (Ow.freeze z)
  have n : p ≠ l := fun z => nw ⟨i, _, h, rfl, by rw [z]; exact a⟩
  rw [upd_ne n]; exact hp
theorem sn_less (l : Less env1 env) (k : Sn K X t env1 P) : Sn K X t env P := fun σ H H1 st D q =>
  k σ H H1 (st.less l.len l.at) D fun oc p => (q oc p).tr (Fr.refl st.e) fun l' z => by
    obtain ⟨j, s, a, b, c⟩ := z
    rcases l.at j s a with y | y
    · subst y; cases b
    · exact .inl ⟨j, s, y, b, c⟩
theorem runN {H H1 : Hp} {N : List Str} {vs : List V} {n : Nat} {D : Ends} (s : Same H H1) (dv : DpAll K H vs ds) (hn : N.length - ds.length = n) (h : Sn K X t (ds.map .dat ++ List.replicate n .no) P) (q : ∀ oc, P oc → OcOk K X (fun _ => False) D H H1 oc) : t D (L2.start N vs) H1 := by
  have st := stt_start (N := N) s dv hn
  refine h _ H H1 st D fun oc p => (q oc p).tr (Fr.refl s) fun p z => (ow_none (fun sv m => ?_) z).elim
  rcases List.mem_append.mp m with m | m
  · obtain ⟨d, _, rfl⟩ := List.mem_map.mp m; rfl
  · obtain ⟨_, rfl⟩ := List.mem_replicate.mp m; rfl
/-- what stands between two turns, one of several -/
def Pn (K : PySem.W.Frag) (W : Addr → Prop) (H H1 : Hp) (Inv : Nat → List SV → Prop) : Nat → L2.St → Hp → Prop := fun i σ' H' => ∃ e G, Inv i e ∧ Fr W H H1 G H' ∧ Stt K G H' σ' e ∧ ∀ l, Ow σ' e l → W l ∨ H1 l = none
theorem pn_turn {W : Addr → Prop} {H H1 G H' : Hp} {Inv : Nat → List SV → Prop} {i : Nat} {env' : List SV} {D : Ends} {x : PyData} {g : TG} {e : List SV} {v : V} {σ' : L2.St}
    (f : Fr W H H1 G H') (st : Stt K G H' σ' e) (ow : ∀ l, Ow σ' e l → W l ∨ H1 l = none) (dv : Dp K G v x) (tg : Tg K g e x env') (b : Sn K X t env' (fun oc => ∃ e', (oc = .nx e' ∨ oc = .ct e') ∧ Inv (i + 1) e')) :
    g v σ' H' fun σ2 H2 => t { D with nx := Pn K W H H1 Inv (i + 1), ct := Pn K W H H1 Inv (i + 1) } σ2 H2 := by
  refine tg σ' G H' v st dv _ fun σ2 st3 o3 => ?_
  have ow3 : ∀ l, Ow σ2 env' l → W l ∨ H1 l = none := fun l z => ow l (o3 l z)
  refine b σ2 G H' st3 _ fun oc ⟨e', eo, ie⟩ => ?_
  have nx : ∀ σ3 G3 H3, Fr (Ow σ2 env') G H' G3 H3 → Stt K G3 H3 σ3 e' → (∀ l, Ow σ3 e' l → Ow σ2 env' l ∨ H' l = none) → Pn K W H H1 Inv (i + 1) σ3 H3 := fun σ3 G3 H3 f3 st4 o4 =>
    ⟨e', G3, ie, f.trans f3 ow3, st4, fun l z => (o4 l z).elim (ow3 l) fun z => .inr (f.m l z)⟩
  rcases eo with eo | eo <;> (subst eo; exact nx)
theorem sn_for {g : TG} (h : Ev K tl env (.list ds)) (Inv : Nat → List SV → Prop) (h0 : Inv 0 env) (go : ∀ (i : Nat) (d : PyData) e, ds[i]? = some d → Inv i e → ∃ env', Tg K g e d env' ∧ Sn K X t env' (fun oc => ∃ e', (oc = .nx e' ∨ oc = .ct e') ∧ Inv (i + 1) e')) : Sn K X (tFor (iList K tl) g t) env (fun oc => ∃ e, oc = .nx e ∧ Inv ds.length e) := fun σ H H1 st D q => by
  refine h σ H H1 st _ fun v G0 H2 f dv => ?_
  cases dv with
  | @lst a vs _ hl hd =>
    have f' : Fr (Ow σ env) H H1 G0 H2 := f.mono fun _ z => z.elim
    refine ⟨a, rfl, ⟨vs, f.r.seq hl⟩, for_list (K := K) (a := a) (xs := vs) (Pn K (Ow σ env) G0 H2 Inv) ⟨env, G0, h0, Fr.refl f.r, st.mono f, fun l z => .inl z⟩ (fun i σ' H' _ p => ?_) (fun i x σ' H' hi p => ?_) (fun σ' H' p => ?_)⟩
    · obtain ⟨e, G, _, f2, _, _⟩ := p
      exact f2.r.seq (f2.g.seq hl)
    · obtain ⟨e, G, ie, f2, st2, ow⟩ := p
      obtain ⟨d, e1, e2⟩ := dpa_get hd hi
      obtain ⟨env', tg, b⟩ := go i d e e1 ie
      exact pn_turn (D := { D with bk := D.nx }) f2 st2 ow (dm f2.g e2) tg b
    · obtain ⟨e, G, ie, f2, st2, ow⟩ := p
      rw [dpa_len hd] at ie
      exact q _ ⟨e, rfl, ie⟩ σ' G H' (f'.trans f2 fun l z => .inl z) st2 fun l z => (ow l z).elim .inl fun z => .inr (f.m l z)
theorem sn_forR1 {n : Nat} {aa : TA} {g : TG} {k : Int} (h : EvA K aa env [.int k]) (hk : -100000 ≤ k ∧ k ≤ 100000) (hn : k.toNat = n) (Inv : Nat → List SV → Prop) (h0 : Inv 0 env) (go : ∀ (i : Nat) e, i < n → Inv i e → ∃ env', Tg K g e (.int i) env' ∧ Sn K X t env' (fun oc => ∃ e', (oc = .nx e' ∨ oc = .ct e') ∧ Inv (i + 1) e')) :
    Sn K X (tFor (iRng1 aa) g t) env (fun oc => ∃ e, oc = .nx e ∧ Inv n e) := fun σ H H1 st D q => by
  refine h σ H H1 st _ fun vs G0 H2 f dv => ?_
  cases dv with
  | cons a b =>
    cases b; cases a
    have f' : Fr (Ow σ env) H H1 G0 H2 := f.mono fun _ z => z.elim
    refine ⟨k, rfl, by omega, by omega, for_range (lo := 0) (n := k.toNat) (Pn K (Ow σ env) G0 H2 Inv) ⟨env, G0, h0, Fr.refl f.r, st.mono f, fun l z => .inl z⟩ (fun i σ' H' hi p => ?_) (fun σ' H' p => ?_)⟩
    · obtain ⟨e, G, ie, f2, st2, ow⟩ := p
      obtain ⟨env', tg, b⟩ := go i e (by omega) ie
      rw [Int.zero_add]
      exact pn_turn (D := { D with bk := D.nx }) f2 st2 ow (.int _) tg b
    · obtain ⟨e, G, ie, f2, st2, ow⟩ := p
      rw [hn] at ie
      exact q _ ⟨e, rfl, ie⟩ σ' G H' (f'.trans f2 fun l z => .inl z) st2 fun l z => (ow l z).elim .inl fun z => .inr (f.m l z)
theorem sn_forR2 {n : Nat} {aa : TA} {g : TG} {lo k : Int} (h : EvA K aa env [.int lo, .int k]) (hk : -100000 ≤ k ∧ k ≤ 100000) (hlo : -100000 ≤ lo ∧ lo ≤ 100000) (hn : (k - lo).toNat = n) (Inv : Nat → List SV → Prop) (h0 : Inv 0 env) (go : ∀ (i : Nat) e, i < n → Inv i e → ∃ env', Tg K g e (.int (lo + i)) env' ∧ Sn K X t env' (fun oc => ∃ e', (oc = .nx e' ∨ oc = .ct e') ∧ Inv (i + 1) e')) :
    Sn K X (tFor (iRng2 aa) g t) env (fun oc => ∃ e, oc = .nx e ∧ Inv n e) := fun σ H H1 st D q => by
  refine h σ H H1 st _ fun vs G0 H2 f dv => ?_
  cases dv with
  | cons a b =>
    cases b with
    | cons b c =>
      cases c; cases a; cases b
      have f' : Fr (Ow σ env) H H1 G0 H2 := f.mono fun _ z => z.elim
      refine ⟨lo, k, rfl, by omega, for_range (lo := lo) (n := (k - lo).toNat) (Pn K (Ow σ env) G0 H2 Inv) ⟨env, G0, h0, Fr.refl f.r, st.mono f, fun l z => .inl z⟩ (fun i σ' H' hi p => ?_) (fun σ' H' p => ?_)⟩
      · obtain ⟨e, G, ie, f2, st2, ow⟩ := p
        obtain ⟨env', tg, b⟩ := go i e (by omega) ie
        exact pn_turn (D := { D with bk := D.nx }) f2 st2 ow (.int _) tg b
      · obtain ⟨e, G, ie, f2, st2, ow⟩ := p
        rw [hn] at ie
        exact q _ ⟨e, rfl, ie⟩ σ' G H' (f'.trans f2 fun l z => .inl z) st2 fun l z => (ow l z).elim .inl fun z => .inr (f.m l z)
theorem sn_forR3 {n : Nat} {aa : TA} {g : TG} {lo k c : Int} (h : EvA K aa env [.int lo, .int k, .int c]) (hr : RgC lo k c n) (Inv : Nat → List SV → Prop) (h0 : Inv 0 env) (go : ∀ (i : Nat) e, i < n → Inv i e → ∃ env', Tg K g e (.int (lo + (i : Nat) * c)) env' ∧ Sn K X t env' (fun oc => ∃ e', (oc = .nx e' ∨ oc = .ct e') ∧ Inv (i + 1) e')) :
    Sn K X (tFor (iRng3 aa) g t) env (fun oc => ∃ e, oc = .nx e ∧ Inv n e) := fun σ H H1 st D q => by
  refine h σ H H1 st _ fun vs G0 H2 f dv => ?_
  cases dv with
  | cons a b =>
    cases b with
    | cons b b2 =>
      cases b2 with
      | cons b2 b3 =>
        cases b3; cases a; cases b; cases b2
        have f' : Fr (Ow σ env) H H1 G0 H2 := f.mono fun _ z => z.elim
        refine ⟨lo, k, c, n, rfl, hr, for_rangeC (lo := lo) (c := c) (n := n) (Pn K (Ow σ env) G0 H2 Inv) ⟨env, G0, h0, Fr.refl f.r, st.mono f, fun l z => .inl z⟩ (fun i σ' H' hi p => ?_) (fun σ' H' p => ?_)⟩
        · obtain ⟨e, G, ie, f2, st2, ow⟩ := p
          obtain ⟨env', tg, b⟩ := go i e hi ie
          exact pn_turn (D := { D with bk := D.nx }) f2 st2 ow (.int _) tg b
        · obtain ⟨e, G, ie, f2, st2, ow⟩ := p
          exact q _ ⟨e, rfl, ie⟩ σ' G H' (f'.trans f2 fun l z => .inl z) st2 fun l z => (ow l z).elim .inl fun z => .inr (f.m l z)
/-! ### a def that gives some list back -/
def spLN (K : PySem.W.Frag) (R : List PyData → List PyData → Prop) (I : List PyData → Prop) : Sp := fun vs H1 Q _ => ∃ H ds, Same H H1 ∧ DpAll K H vs ds ∧ I ds ∧ ∀ xs, R ds xs → ∀ p ws G H2, Fr0 H H1 G H2 → H1 p = none → G p = none → H2 p = some (.lst ws) → DpAll K G ws xs → Q (.ref p) H2
theorem sn_setN {R : List PyData → List PyData → Prop} {I : List PyData → Prop} {E : L2.St → XK} {aa : TA} {n : Nat} (ha : EvA K aa env ds) (hi : I ds) : Sn K X (tAsg (tCallS (spLN K R I) E aa) (gName n)) env (fun oc => ∃ e, oc = .nx e ∧ ∃ xs, R ds xs ∧ e = env.set n (.own xs)) := fun σ H H1 st D q =>
  ha σ H H1 st _ fun vs G H2 f dv => ⟨G, ds, f.r, dv, hi, fun xs hr p ws G3 H3 f3 h1 h2 h3 d3 => q _ ⟨_, rfl, xs, hr, rfl⟩ _ G3 H3 ((f.tr0 f3).mono fun _ z => z.elim) (st.setN (f.tr0 f3) (f.a.free h1) h2 h3 d3) fun l z => by
    rcases Ow.set z with z | ⟨_, z⟩
    · exact .inl z
    · cases z; exact .inr (f.a.free h1)⟩
theorem sn_retN {R : List PyData → List PyData → Prop} {I : List PyData → Prop} {E : L2.St → XK} {aa : TA} (ha : EvA K aa env ds) (hi : I ds) (hp : ∀ xs, R ds xs → P (.rl xs)) : Sn K X (tRet (tCallS (spLN K R I) E aa)) env P := fun σ H H1 st D q =>
  ha σ H H1 st _ fun vs G H2 f dv => ⟨G, ds, f.r, dv, hi, fun xs hr p ws G3 H3 f3 h1 h2 h3 d3 => q _ (hp xs hr) p ws G3 H3 ((f.tr0 f3).mono fun _ z => z.elim) (.inr (f.a.free h1)) h2 h3 d3⟩
/-! ### comprehensions over range(a, b) -/
theorem eo_lcR2 {n : Nat} {lo k : Int} {aa : TA} (f : Nat → Bool) (w : Nat → PyData) {g : TG} {vs : List Nat} (h : EvA K aa env [.int lo, .int k]) (hk : -100000 < k ∧ k < 100000) (hlo : -100000 < lo ∧ lo < 100000) (hn : (k - lo).toNat = n) (hnn : n < 100000) (turn : ∀ i : Nat, i < n → ∃ env', Tgw K vs g (wipeE env vs) (.int (lo + i)) env' ∧ EvT K tt env' (f i) ∧ (f i = true → Ev K te env' (w i))) :
    EvO K (tLc (iRng2 aa) g tt te vs) env (((List.range n).filter f).map w) := fun σ H H1 st Q q => by
  refine h σ H H1 st _ fun ws G0 H2 f0 dv => ?_
  cases dv with
  | cons a b =>
    cases b with
    | cons b c =>
      cases c; cases a; cases b
      refine ⟨lo, k, rfl, by omega, fun D hD => ?_⟩
      have st0 := st.mono f0
      have nD : ∀ l, Ow (L2.wipe σ vs) (wipeE env vs) l → ¬ l = D := fun l z e => by
        have := (st0.owned (Ow.wipe z)).2
        exact this (by rw [e]; exact hD)
      have hz : (List.range n).length < 100000 := by rw [List.length_range]; exact hnn
      refine lc_range (lo := lo) (n := (k - lo).toNat) (fun i H' => Mk K G0 H2 D ((((List.range n).take i).filter f).map w) H') (mk_start f0.r hD) (fun i H' hi p => ?_) (fun H' p => ?_)
      · obtain ⟨G, ac, f1, hG, ha, da⟩ := p
        have ex : (List.range n)[i]? = some i := range_get (by omega)
        obtain ⟨env', tg, ht, he⟩ := turn i (by omega)
        refine tg _ G H' _ ((st0.wipe vs).monoW f1 nD) (.int _) _ fun σ' st' o hw => ⟨?_, ?_⟩
        · rw [hw]; exact wipe_wipe fun _ z => z
        · rw [filter_next ex]
          exact mk_turn f1 hG ha da (take_short hz) st' ht he
      · obtain ⟨G, ac, f1, hG, ha, da⟩ := p
        have ff : Fr0 H H1 G H' := f0.trans f1 fun p z => .inr (by rw [z]; exact f0.a.free hD)
        rw [hn, List.take_of_length_le (by rw [List.length_range]; exact Nat.le_refl _)] at da
        exact q D ac G H' ff (f0.a.free hD) hG ha da
theorem et_yes : EvT K tYes env true := fun σ H H1 st Q q => q H H1 (Fr.refl st.e)
/-- xs.clear() -/
theorem sx_clear {i : Nat} (h : env[i]? = some (.own xs)) : Sx K X (tDrop (tBM0 K "list" rClear (tVar i))) env (.nx (env.set i (.own []))) := fun σ H H1 st D q => by
  obtain ⟨l, vs, a, b, c, dv⟩ := st.own h
  refine ⟨_, a, .inl ⟨rfl, _, .inl (.inl c)⟩, l, vs, rfl, rfl, c, ?_⟩
  have hw : Ow σ env l := ⟨i, _, h, rfl, a⟩
  have e2 : Same H (upd H1 l (.lst [])) := fun p o z => by
    rw [upd_ne (ne_of_none z b)]; exact st.e p o z
  refine q σ H _ ⟨Same.refl _, e2, fun p o nw z => ?_, fun p nw z _ => z, fun p z => upd_none z⟩ ?_ fun l z => ?_
  · have n : p ≠ l := fun z => nw (z ▸ hw)
    rw [upd_ne n]; exact z
  · refine ⟨e2, by rw [List.length_set]; exact st.l, fun j o s ea eb => ?_, fun j k s s' p hjk b1 b2 o1 o2 a1 => ?_⟩
    · by_cases ej : i = j
      · subst ej
        rw [a] at ea; cases ea
        have hi : i < env.length := (List.getElem?_eq_some_iff.mp h).1
        rw [List.getElem?_set_self hi] at eb; cases eb
        exact ⟨l, _, rfl, b, upd_same, .nil⟩
      · rw [List.getElem?_set_ne ej] at eb
        have ok := st.ok j o s ea eb
        cases s with
        | no => trivial
        | dat d => exact ok
        | own zs =>
          obtain ⟨l2, ws, q1, q2, q3, q4⟩ := ok
          subst q1
          have n : l2 ≠ l := fun z => st.ne i j _ _ l ej h eb rfl rfl a (z ▸ ea)
          exact ⟨l2, ws, rfl, q2, by rw [upd_ne n]; exact q3, q4⟩
        | obj x =>
          obtain ⟨l2, q1, q2, q3⟩ := ok
          subst q1
          have n : l2 ≠ l := fun z => st.ne i j _ _ l ej h eb rfl rfl a (z ▸ ea)
          exact ⟨l2, rfl, q2, by rw [upd_ne n]; exact q3⟩
        | raw v => exact ok
        | dct P w kvs =>
          obtain ⟨l2, ws, q1, q2, q3, q4⟩ := ok
          subst q1
          have n : l2 ≠ l := fun z => st.ne i j _ _ l ej h eb rfl rfl a (z ▸ ea)
          exact ⟨l2, ws, rfl, q2, by rw [upd_ne n]; exact q3, q4⟩
        | stk w ks =>
          obtain ⟨l2, ws, q1, q2, q3, q4⟩ := ok
          subst q1
          have n : l2 ≠ l := fun z => st.ne i j _ _ l ej h eb rfl rfl a (z ▸ ea)
          exact ⟨l2, ws, rfl, q2, by rw [upd_ne n]; exact q3, q4⟩
        | dcf P w kvs => exact ok
        | kl xs => exact ok
        | kpg k xs rs => exact ok
        | kep n xs ys => exact ok
        | rd v d => exact ok
        | tupv ws => exact ok
        | ownA l2 zs =>
          obtain ⟨q1, ws, q2, q3, q4⟩ := ok
          subst q1
          have n : l2 ≠ l := fun z => st.ne i j _ _ l ej h eb rfl rfl a (z ▸ ea)
          exact ⟨rfl, ws, q2, by rw [upd_ne n]; exact q3, q4⟩
    · by_cases e1 : i = j
      · subst e1
        rw [List.getElem?_set_ne hjk] at b2
        exact st.ne i k _ s' p hjk h b2 rfl o2 a1
      · rw [List.getElem?_set_ne e1] at b1
        by_cases e2 : i = k
        · subst e2
          exact st.ne j i s _ p hjk b1 h o1 rfl a1
        · rw [List.getElem?_set_ne e2] at b2
          exact st.ne j k s s' p hjk b1 b2 o1 o2 a1
  · obtain ⟨j, s, z1, z2, z3⟩ := z
    by_cases e1 : i = j
    · subst e1
      rw [a] at z3; cases z3
      exact .inl hw
    · rw [List.getElem?_set_ne e1] at z1
      exact .inl ⟨j, s, z1, z2, z3⟩
end
end Pf
namespace Pf
open PySem PySem.Spec PyProof.Rows L2
section
variable {K : PySem.W.Frag} {X : WX} {env : List SV} {d : PyData} {ds : List PyData} {P : Oc → Prop}
/-- a def that gives some data back -/
def spN (K : PySem.W.Frag) (R : List PyData → PyData → Prop) (I : List PyData → Prop) : Sp := fun vs H1 Q _ => ∃ H ds, Same H H1 ∧ DpAll K H vs ds ∧ I ds ∧ ∀ d, R ds d → ∀ v G H2, Fr0 H H1 G H2 → Dp K G v d → Q v H2
theorem sn_setD {R : List PyData → PyData → Prop} {I : List PyData → Prop} {E : L2.St → XK} {aa : TA} {n : Nat} (ha : EvA K aa env ds) (hi : I ds) : Sn K X (tAsg (tCallS (spN K R I) E aa) (gName n)) env (fun oc => ∃ e, oc = .nx e ∧ ∃ d, R ds d ∧ e = env.set n (.dat d)) := fun σ H H1 st D q =>
  ha σ H H1 st _ fun vs G H2 f dv => ⟨G, ds, f.r, dv, hi, fun d hr v G3 H3 f3 d3 => q _ ⟨_, rfl, d, hr, rfl⟩ _ G3 H3 ((f.tr0 f3).mono fun _ z => z.elim) ((st.mono (f.tr0 f3)).setD d3) fun l z => by
    rcases Ow.set z with z | ⟨z, _⟩
    · exact .inl z
    · cases z⟩
theorem sn_ret {te : TE} (h : Ev K te env d) (p : P (.rt d)) : Sn K X (tRet te) env P := sn_of (sx_ret h) p
theorem any2 (x a b : Int) : ([PyData.int a, .int b].any fun z => eqF z (.int x)) = decide (x = a ∨ x = b) := by
  show (decide (a = x) || (decide (b = x) || false)) = _
  rw [Bool.or_false, Bool.eq_iff_iff, Bool.or_eq_true, decide_eq_true_eq, decide_eq_true_eq, decide_eq_true_eq]
  exact or_congr ⟨Eq.symm, Eq.symm⟩ ⟨Eq.symm, Eq.symm⟩
end
end Pf
namespace Pf
open PySem PySem.Spec PyProof.Rows L2
section
variable {K : PySem.W.Frag} {X : WX} {env env1 : List SV} {t : TS} {M N : List SV → Prop}
theorem ok_less {W : Addr → Prop} {D : Ends} {H H1 : Hp} {e e' : List SV} (l : Less e' e) (q : OcOk K X W D H H1 (.nx e')) : OcOk K X W D H H1 (.nx e) := fun σ G H2 f st o =>
  q σ G H2 f (st.less l.len l.at) fun p z => by
    obtain ⟨j, s, a, b, c⟩ := z
    rcases l.at j s a with y | y
    · subst y; cases b
    · exact o p ⟨j, s, y, b, c⟩
/-- a turn's end, told with less -/
theorem sn_out (h : Sn K X t env (fun oc => ∃ e, oc = .nx e ∧ M e)) (k : ∀ e, M e → ∃ e', Less e' e ∧ N e') : Sn K X t env (fun oc => ∃ e', (oc = .nx e' ∨ oc = .ct e') ∧ N e') := fun σ H H1 st D q =>
  h σ H H1 st D fun oc ⟨e, eo, me⟩ => by
    subst eo
    obtain ⟨e', l, ne⟩ := k e me
    exact ok_less l (q _ ⟨e', .inl rfl, ne⟩)
theorem sn_out1 (h : Sx K X t env (.nx env1)) (k : ∃ e', Less e' env1 ∧ N e') : Sn K X t env (fun oc => ∃ e', (oc = .nx e' ∨ oc = .ct e') ∧ N e') :=
  sn_out (M := (· = env1)) (sn_of h ⟨env1, rfl, rfl⟩) fun e he => by rw [he]; exact k
end
end Pf
namespace Pf
open PySem PySem.Spec PyProof.Rows L2
theorem u65 {k : Nat} {A : Around} (r : Room k A) : A.units + 65 < cLine := by have := r.un; omega
end Pf

namespace Pf
open PySem PySem.Spec PyProof.Rows L2
/-! ### a list's count of True -/
theorem eqg_bl (a b : Bool) : MeetsSeq.EqGives (.bool a) (.bool b) (a == b) := fun prog w A E s Q q => by
  unfold eqBool
  refine wpAny_holding ?_
  by_cases e : (Value.bool a == Value.bool b) = true
  · rw [if_pos e]
    have e' : a = b := Value.bool.inj (eq_of_beq e)
    subst e'
    exact wpAny_bind (wpAny_rule (wpAny_pure (by simpa using q)))
  · rw [if_neg e]
    exact wpAny_bind (PyProof.Rows.eq_bool (wpAny_truthy_bool q))
def eqb (b : Bool) : Value → Bool
  | .bool c => c == b
  | _ => false
def rCntB (K : PySem.W.Frag) : V → List V → Hp → VK → Prop := fun x xs H Q => ∃ (p : Addr) (bs : List Bool) (b : Bool), x = .ref p ∧ xs = [.bl b] ∧ SqL K H p (bs.map V.bl) ∧ Q (.int (bs.count b : Nat)) H
theorem bls_of_vals : ∀ {bs : List Bool} {us : List Value}, Vals (bs.map V.bl) us → us = bs.map Value.bool
  | [], _, .nil => rfl
  | b :: r, _, .cons e k => by
    rw [bls_of_vals k]
    cases e; rfl
theorem eqb_count (b : Bool) : ∀ bs : List Bool, (bs.map Value.bool).countP (eqb b) = bs.count b
  | [] => rfl
  | c :: r => by
    rw [List.map_cons, List.countP_cons, List.count_cons, eqb_count b r]; rfl
theorem mt_lcountB {X : Cx} : MtR X "list.count" (rCntB X.K) := by
  intro pins s σ H x xs v us Q I rx rxs h
  obtain ⟨p, bs, b, rfl, rfl, hs, q⟩ := h
  cases rx
  obtain ⟨u, rfl, ru⟩ := Vals.one rxs
  cases ru
  obtain ⟨its, rv, ⟨⟨cls, dd, data, sl⟩, n, ho, hc, hdn, hd⟩, hlen⟩ := I.list hs
  dsimp only at hc hd hdn
  subst hc hd
  have e := bls_of_vals rv
  subst e
  refine call_meets F.slot_list_count ⟨_, ho, rfl⟩ F.entry_list_count (F.args_list_count_2 _ _) (SeqAt.list_countAt p _ n dd sl _ (eqb b)) ⟨ho, fun y hy => ?_, ?_⟩
  · have hy' : y ∈ bs.map Value.bool := by simpa using hy
    obtain ⟨c, _, rfl⟩ := List.mem_map.mp hy'
    exact (eqg_bl c b).at X.A.in1 s
  · refine ⟨.int (bs.count b : Nat), H, I.tok (s.toks + 1), ⟨s.toks, ?_⟩, q⟩
    show Value.int (((bs.map Value.bool).countP (eqb b) : Nat) : Int) s.toks = _
    rw [eqb_count]
section
variable {K : PySem.W.Frag} {X : WX} {env env1 env2 : List SV} {ta tb tc te tl : TE} {t u ts : TS} {tt : TT} {d e : PyData} {i j : Int} {xs ys ds : List PyData} {oc : Oc} {c : Value}
theorem dpa_bls : ∀ {ns : List Bool} {H : Hp} {vs : List V}, DpAll K H vs (ns.map PyData.bool) → vs = ns.map V.bl
  | [], _, _, h => by cases h; rfl
  | n :: r, _, _, h => by
    cases h with
    | cons a b => cases a; rw [dpa_bls b]; rfl
theorem ev_cntB {bs : List Bool} {b : Bool} (ha : EvL K ta env (bs.map .bool)) (hb : Ev K tb env (.bool b)) : Ev K (tBM K "list" (rCntB K) ta (tCons tb tNil)) env (.int (bs.count b : Nat)) := fun σ H H1 st Q q =>
  ha σ H H1 st _ fun p vs G H2 f h2 dv => ⟨.inl ⟨rfl, _, .inl (.inl h2)⟩, hb σ G H2 (st.mono f) _ fun v G3 H3 f3 d3 => by
    cases d3
    have e := dpa_bls dv
    subst e
    exact ⟨p, bs, b, rfl, rfl, .inl (.inl (f3.a _ _ h2)), q _ G3 H3 (f.tr0 f3) (.int _)⟩⟩
/-! ### several excepts -/
/-- the suite that takes c -/
inductive Cat (K : PySem.W.Frag) (c : Value) : List (Value × (Addr → Value → Option Addr → TS)) → (Addr → Value → Option Addr → TS) → Prop where
  | here {cl : Value} {ts : Addr → Value → Option Addr → TS} {r : List (Value × (Addr → Value → Option Addr → TS))} : PySem.W.exmOne K c cl = some true → Cat K c ((cl, ts) :: r) ts
  | next {cl : Value} {ts tt : Addr → Value → Option Addr → TS} {r : List (Value × (Addr → Value → Option Addr → TS))} : PySem.W.exmOne K c cl = some false → Cat K c r ts → Cat K c ((cl, tt) :: r) ts
theorem wmany_cat {D : Ends} {σ : L2.St} {H : Hp} {l : List (Value × (Addr → Value → Option Addr → TS))} {ts : Addr → Value → Option Addr → TS} (h : Cat K c l ts) (k : ∀ a, H a = none → ts a c none D σ H) : wMany K X D l c none σ H := by
  induction h with
  | here e => exact ⟨true, e, fun _ => k, fun z => nomatch z⟩
  | next e _ ih => exact ⟨false, e, (fun z => nomatch z), fun _ => ih k⟩
theorem sx_trym_ok {l : List (Value × (Addr → Value → Option Addr → TS))} {tbb : WX → TS} (h : ∀ X', Sx K X' (tbb X') env oc) (e : oc.isEx = false) : Sx K X (fun D σ H => tbb (wMany K X D l) D σ H) env oc := fun σ H H1 st D q =>
  h _ σ H H1 st D (q.wx e)
theorem sx_trym_ex {l : List (Value × (Addr → Value → Option Addr → TS))} {tbb : WX → TS} {tss : Addr → Value → Option Addr → TS} (h : ∀ X', Sx K X' (tbb X') env (.ex c env1)) (hm : Cat K c l tss) (hs : ∀ a, Sx K X (tss a c none) env1 oc) : Sx K X (fun D σ H => tbb (wMany K X D l) D σ H) env oc := fun σ H H1 st D q =>
  h _ σ H H1 st D fun σ' G H2 f st' o => wmany_cat hm fun a _ => hs a σ' G H2 st' D (q.tr f o)
/-! ### the exception's own name -/
theorem Stt.setRaw {H H1 : Hp} {σ : L2.St} (h : Stt K H H1 σ env) {i : Nat} {a : Addr} (ha : H1 a = none) : Stt K H H1 (σ.set i (some (.ref a))) (env.set i (.raw (.ref a))) :=
  h.setO (show some (V.ref a) = some (V.ref a) from rfl) fun j s b1 b2 _ z => (h.owned ⟨j, s, b1, b2, z⟩).2 ha
theorem sx_tryas {cl : Value} {n : Nat} {tbb : WX → TS} {tss : Addr → Value → Option Addr → TS} (h : ∀ X', Sx K X' (tbb X') env (.ex c env1)) (hm : PySem.W.exmOne K c cl = some true)
    (hs : ∀ a, Sx K X (tss a c none) (env1.set n (.raw (.ref a))) (.rt d)) : Sx K X (fun D σ H => tbb (wAs K cl n tss X D) D σ H) env (.rt d) :=
  fun σ H H1 st D q => h _ σ H H1 st D fun σ' G H2 f st' o => ⟨true, hm, fun _ a ha => hs a _ G H2 (st'.setRaw ha) _ fun v G3 H3 f3 d3 => q v G3 H3 (f.trans f3 fun p z => by
    rcases Ow.set z with z | ⟨z, _⟩
    · exact o p z
    · cases z) d3, fun z => nomatch z⟩
/-- isinstance(e, c), e the exception that the suite holds -/
def rIsY (K : PySem.W.Frag) (a : Addr) (cls : Value) (dd : Option Addr) : List V → Hp → VK → Prop := fun xs H Q => ∃ D, ExcC K D ∧ (cls = .ref D ∧ dd = none) ∧ rIsE K D a xs H Q
theorem call_isY {X : Cx} {a : Addr} {oe : Obj} {cls : Value} {dd : Option Addr} {pn : List (Addr × Obj)} (hz : Zc cls dd oe) (hf : ∃ vs, oe.data = .fields vs) : CallR (X.suite a ((a, oe) :: pn)) (.builtin "isinstance") (rIsY X.K a cls dd) := by
  intro pins s σ H xs us Q I r h
  obtain ⟨D, C, ⟨rfl, rfl⟩, h⟩ := h
  exact call_isE C hz hf pins s σ H xs us Q I r h
/-- a value that is told as it is -/
def Er (K : PySem.W.Frag) (te : TE) (env : List SV) (v : V) : Prop := ∀ σ H H1, Stt K H H1 σ env → ∀ Q : VK, (∀ G H2, Fr0 H H1 G H2 → Q v H2) → te σ H1 Q
theorem er_var {i : Nat} {v : V} (h : env[i]? = some (.raw v)) : Er K (tVar i) env v := fun σ H H1 st Q q => by
  obtain ⟨o, a, b⟩ := st.get h
  have b' : o = some v := b
  subst b'
  exact ⟨v, a, q H H1 (Fr.refl st.e)⟩
theorem er_c {v : V} : Er K (tC v) env v := fun σ H H1 st Q q => q H H1 (Fr.refl st.e)
theorem ev_isY {a D : Addr} {v : V} {cv : Value} {b : Bool} (ha : Er K ta env (.ref a)) (hb : Er K tb env v) (hE : ExcC K D) (hv : ∀ u, L2.RelV v u → u = cv) (hk : PySem.W.kitOne K (.ref D) cv = some b) : Ev K (tCB (rIsY K a (.ref D) none) (tCons ta (tCons tb tNil))) env (.bool b) := fun σ H H1 st Q q =>
  ha σ H H1 st _ fun G H2 f => hb σ G H2 (st.mono f) _ fun G3 H3 f3 => ⟨D, hE, ⟨rfl, rfl⟩, v, cv, b, rfl, hv, hk, q _ G3 H3 (f.tr0 f3) (.bl b)⟩
/-! ### less of what an exception finds -/
theorem sx_ex_less (l : Less env2 env1) (k : Sx K X t env (.ex c env1)) : Sx K X t env (.ex c env2) := fun σ H H1 st D q =>
  k σ H H1 st D fun σ' G H2 f st' o => q σ' G H2 f (st'.less l.len l.at) fun p z => by
    obtain ⟨j, s, a, b, c⟩ := z
    rcases l.at j s a with y | y
    · subst y; cases b
    · exact o p ⟨j, s, y, b, c⟩
/-! ### for x, y in zip(a, b) -/
theorem sx_forZ {ds es : List PyData} {g : TG} {n : Nat} (h : Ev K ta env (.list ds)) (h' : Ev K tb env (.list es)) (hn : n = min ds.length es.length) (Inv : Nat → List SV) (h0 : Inv 0 = env) (o : Nat → Bool) (ex : Oc) (hx : ex.isNx = false) (hb : ∀ e, ex ≠ .bk e) (hc : ∀ e, ex ≠ .ct e)
    (go : ∀ (i : Nat) (d e : PyData), i < n → ds[i]? = some d → es[i]? = some e → (∀ j, j < i → o j = false) → ∃ env', Tg K g (Inv i) (.tuple [d, e]) env' ∧ ((o i = false → Go K X t env' (Inv (i + 1))) ∧ (o i = true → oc = ex ∧ Sx K X t env' ex)))
    (rest : (∀ j, j < n → o j = false) → Sx K X u (Inv n) oc) : Sx K X (tSeq (tFor (iZip K (tCons ta (tCons tb tNil))) g t) u) env oc := fun σ H H1 st D q => by
  refine h σ H H1 st _ fun v1 G1 H2 f1 dv1 => h' σ G1 H2 (st.mono f1) _ fun v2 G0 H3 f2 dv2 => ?_
  have dv1' := dm f2.g dv1
  have ff := f1.tr0 f2
  clear dv1
  cases dv1' with
  | @lst a vs _ hl hd =>
    cases dv2 with
    | @lst b ws _ hl' hd' =>
      have f' : Fr (Ow σ env) H H1 G0 H3 := ff.mono fun _ z => z.elim
      have l1 : vs.length = ds.length := dpa_len hd
      have l2 : ws.length = es.length := dpa_len hd'
      refine ⟨a, b, vs, ws, rfl, ff.r.seq hl, ff.r.seq hl', fun i m σ' H' => m = n - i ∧ i ≤ n ∧ Pt K (Ow σ env) G0 H3 Inv i σ' H' ∧ ∀ j, j < i → o j = false, ⟨n, rfl, Nat.zero_le _, ⟨G0, Fr.refl ff.r, by rw [h0]; exact st.mono ff, fun l z => .inl (by rw [h0] at z; exact z)⟩, fun j hj => absurd hj (Nat.not_lt_zero j)⟩, ?_⟩
      rintro i m σ' H' ⟨rfl, hi, ⟨G, fr, st2, ow⟩, hj⟩
      have s1 : SqL K H' a vs := fr.r.seq (fr.g.seq hl)
      have s2 : SqL K H' b ws := fr.r.seq (fr.g.seq hl')
      by_cases hlt : i < n
      · have i1 : i < vs.length := by omega
        have i2 : i < ws.length := by omega
        have i3 : i < ds.length := by omega
        have i4 : i < es.length := by omega
        refine .inr ⟨⟨vs, ws, vs[i], ws[i], s1, s2, List.getElem?_eq_getElem i1, List.getElem?_eq_getElem i2⟩, fun σ' H' => Pt K (Ow σ env) G0 H3 Inv (i + 1) σ' H' ∧ ∀ j, j < i + 1 → o j = false, fun σ2 Hx p => ⟨n - (i + 1), by omega, rfl, hlt, p⟩, fun x Hx y => ?_⟩
        obtain ⟨Tn, x1, x2, rfl, hT, rfl, y1, y2⟩ := y
        obtain ⟨d1, e1, e2⟩ := dpa_get hd (y1 vs s1)
        obtain ⟨d2, e3, e4⟩ := dpa_get hd' (y2 ws s2)
        obtain ⟨env', tg, g1, g2⟩ := go i d1 d2 hlt e1 e3 hj
        have fT : Fr0 G H' (upd G Tn (.tup [x1, x2])) (upd H' Tn (.tup [x1, x2])) := Fr.new fr.r hT
        have fr2 : Fr (Ow σ env) G0 H3 (upd G Tn (.tup [x1, x2])) (upd H' Tn (.tup [x1, x2])) := fr.tr0 fT
        refine tg σ' _ _ (.ref Tn) (st2.mono fT) (.tup (.inl (.inl upd_same)) (.cons (dm fr2.g e2) (.cons (dm fr2.g e4) .nil))) _ fun σ2 st3 o3 => ?_
        have ow3 : ∀ l, Ow σ2 env' l → Ow σ env l ∨ H3 l = none := fun l z => ow l (o3 l z)
        cases hoi : o i with
        | false =>
          have nx : ∀ σ3 G3 Hy, Fr (Ow σ2 env') (upd G Tn (.tup [x1, x2])) (upd H' Tn (.tup [x1, x2])) G3 Hy → Stt K G3 Hy σ3 (Inv (i + 1)) → (∀ l, Ow σ3 (Inv (i + 1)) l → Ow σ2 env' l ∨ (upd H' Tn (.tup [x1, x2])) l = none) → Pt K (Ow σ env) G0 H3 Inv (i + 1) σ3 Hy ∧ ∀ j, j < i + 1 → o j = false := fun σ3 G3 Hy f3 st4 o4 =>
            ⟨⟨G3, fr2.trans f3 ow3, st4, fun l z => (o4 l z).elim (ow3 l) fun z => .inr (fr2.m l z)⟩, fun j hj' => by
              rcases Nat.lt_succ_iff_lt_or_eq.mp hj' with z | z
              · exact hj j z
              · rw [z]; exact hoi⟩
          rcases g1 hoi with w | w
          · exact w σ2 _ _ st3 _ nx
          · exact w σ2 _ _ st3 _ nx
        | true =>
          obtain ⟨eo, w⟩ := g2 hoi
          refine w σ2 _ _ st3 _ ?_
          have q' : OcOk K X (Ow σ2 env') D (upd G Tn (.tup [x1, x2])) (upd H' Tn (.tup [x1, x2])) ex := by
            rw [eo] at q
            refine (q.tr f' fun l z => .inl z).tr fr2 ow3
          cases ex with
          | nx e => cases hx
          | bk e => exact absurd rfl (hb e)
          | ct e => exact absurd rfl (hc e)
          | ex c e => exact q'
          | rt d => exact q'
          | rl x => exact q'
          | rr v => exact q'
          | rw vs e => exact q'
          | rk xs => exact q'
          | rg k xs rs => exact q'
          | ry P w kvs => exact q'
          | rb => exact q'
      · have ei : i = n := by omega
        subst ei
        refine .inl ⟨⟨vs, ws, s1, s2, by omega⟩, ?_⟩
        exact rest hj σ' G H' st2 D ((q.tr f' fun l z => .inl z).tr fr ow)
end
end Pf

namespace Pf
open PySem PySem.Spec PyProof.Rows L2
/-! ### list(range(n)) -/
theorem vals_of : ∀ (xs : List V) (us : List Value), xs.length = us.length → (∀ (i : Nat) x u, xs[i]? = some x → us[i]? = some u → L2.RelV x u) → Vals xs us
  | [], [], _, _ => .nil
  | [], _ :: _, h, _ => by cases h
  | _ :: _, [], h, _ => by cases h
  | x :: xs, u :: us, h, k => .cons (k 0 x u rfl rfl) (vals_of xs us (Nat.succ.inj h) fun i y v e1 e2 => k (i + 1) y v (by simpa using e1) (by simpa using e2))
def rRng1 : List V → Hp → VK → Prop := fun vs H Q => ∃ j, vs = [V.int j] ∧ ∀ p : Addr, H p = none → Q (.ref p) (upd H p (.rng 0 j))
theorem cr_range1 {X : Cx} : CallR X (.type "range") rRng1 := by
  intro pins s σ H vs us Q I r h
  obtain ⟨j, rfl, q⟩ := h
  obtain ⟨u, rfl, ru⟩ := Vals.one r
  obtain ⟨t, rfl⟩ := ru
  refine call_range_1 ⟨.ref _, _, I.laid (t' := s.toks + 1 + 1) (o := .rng 0 j) (fun b o e => Heap.get?_push_of_some _ e) (Nat.le_refl _) ⟨_, _, _, Heap.get?_push_size s.heap rfl⟩, rfl, q _ (I.hok.fresh (Nat.le_refl _))⟩
/-- 0, 1, .. -/
def upV (n : Nat) : List V := (List.range n).map fun (k : Nat) => V.int (k : Int)
def rLstR : List V → Hp → VK → Prop := fun vs H Q => ∃ (p : Addr) (n : Nat), vs = [.ref p] ∧ H p = some (.rng 0 (n : Int)) ∧ n ≤ 100000 ∧ ∀ l, H l = none → Q (.ref l) (upd H l (.lst (upV n)))
theorem call_list_rng {X : Cx} (hc : X.calm = true) : CallR X (.type "list") rLstR := by
  intro pins s σ H vs us Q I r h
  obtain ⟨p, n, rfl, hp, hn, q⟩ := h
  rw [Vals.ref1 r]
  obtain ⟨t1, t2, t3, ho⟩ := I.hok p _ hp
  refine call_list_range (n := n) (I.ok.hd hc) ho ?_ ?_ (Nat.le_trans hn (by decide)) fun h' tk acc c keep e its => ?_
  · have hs : Builtin.Range.rangeSize 0 (n : Int) 1 = (n : Int) := by
      unfold Builtin.Range.rangeSize; simp; omega
    have fl : ∀ k : Int, 0 ≤ k → k ≤ 100000 → Builtin.Range.rangeFitsLong k = true := fun k h0 h1 => by
      unfold Builtin.Range.rangeFitsLong; simp; omega
    unfold Builtin.Range.small
    simp [hs, fl 0 (by decide) (by decide), fl 1 (by decide) (by decide), fl (n : Int) (by omega) (by omega)]
  · unfold Builtin.Range.rangeSize; simp; omega
  · have hz : (upV n).length = n := by unfold upV; rw [List.length_map, List.length_range]
    refine ⟨.ref _, _, I.laid (t' := tk) keep (Nat.le_refl _) (o := .lst (upV n)) ⟨by rw [hz]; exact sz_ok hn, acc.toList, c, vals_of _ _ (by rw [hz, Array.length_toList]; exact its.1.symm) fun i x u e1 e2 => ?_, by simpa using e⟩, rfl, q _ (I.hok.fresh (Nat.le_refl _))⟩
    obtain ⟨t, rfl⟩ := its.2 i u (by simpa using e2)
    unfold upV at e1
    rw [List.getElem?_map] at e1
    cases ei : (List.range n)[i]? with
    | none => rw [ei] at e1; cases e1
    | some k =>
      rw [ei] at e1
      obtain rfl := Option.some.inj e1
      have : k = i := by
        have := List.getElem?_eq_some_iff.mp ei
        obtain ⟨h1, h2⟩ := this
        simpa using h2.symm
      subst this
      exact ⟨t, by simp⟩
theorem exm_of {K : PySem.W.Frag} {c e : Addr} {v : Bool} (h1 : PySem.W.subIn K (.ref c) (.type "BaseException") = some true) (h2 : PySem.W.isClsIn K c = true) (h3 : PySem.W.typeIn K (.ref c) = some (.type "type")) (h4 : PySem.W.subIn K (.ref e) (.ref c) = some v) : PySem.W.exmOne K (.ref e) (.ref c) = some v := by
  have q1 : (PySem.W.subIn K (.ref c) (.type "BaseException") == some true) = true := by rw [h1]; rfl
  have q2 : ((PySem.W.clsIn K c).isSome && PySem.W.typeIn K (.ref c) == some (.type "type")) = true := by
    have : (PySem.W.clsIn K c).isSome = true := h2
    rw [this, h3]; rfl
  show (if (PySem.W.subIn K (.ref c) (.type "BaseException") == some true) = true then (if ((PySem.W.clsIn K c).isSome && PySem.W.typeIn K (.ref c) == some (.type "type")) = true then PySem.W.subIn K (.ref e) (.ref c) else none) else none) = some v
  rw [if_pos q1, if_pos q2]; exact h4
section
variable {K : PySem.W.Frag} {env : List SV} {ta : TE}
/-- list(range(n)) -/
theorem eo_listR {n : Nat} (ha : Ev K ta env (.int (n : Int))) (hn : n ≤ 100000) : EvO K (tCB rLstR (tCons (tCB rRng1 (tCons ta tNil)) tNil)) env ((List.range n).map fun (k : Nat) => PyData.int (k : Int)) := fun σ H H1 st Q q =>
  ha σ H H1 st _ fun v G H2 f d => by
    cases d
    refine ⟨n, rfl, fun p hp => ⟨p, n, rfl, upd_same, hn, fun l hl => ?_⟩⟩
    have f2 : Fr0 G H2 G (upd H2 p (.rng 0 (n : Int))) := Fr.hid f.r hp
    have f3 : Fr0 G (upd H2 p (.rng 0 (n : Int))) G (upd (upd H2 p (.rng 0 (n : Int))) l (.lst (upV n))) := Fr.hid f2.r hl
    have hl2 : H2 l = none := upd_none hl
    refine q l (upV n) G _ ((f.tr0 f2).tr0 f3) (f.m l hl2) (f.r.free hl2) upd_same ?_
    have e : ∀ ks : List Nat, DpAll K G (ks.map fun (k : Nat) => V.int (k : Int)) (ks.map fun (k : Nat) => PyData.int (k : Int)) := fun ks => by
      induction ks with
      | nil => exact .nil
      | cons k r ih => exact .cons (.int _) ih
    exact e _
/-- sorted([a, b]) -/
theorem eo_sorted2 {a b : Int} (ha : EvL K ta env [.int a, .int b]) : EvO K (tCB (rSorted K) (tCons ta tNil)) env [.int (if a ≤ b then a else b), .int (if a ≤ b then b else a)] := fun σ H H1 st Q q =>
  ha σ H H1 st _ fun p vs G H2 f h2 dv => by
    have e := dpa_ints (ns := [a, b]) dv
    subst e
    refine ⟨p, [a, b], rfl, .inl (.inl h2), Nat.le_of_ble_eq_true rfl, fun ns' r hp hs hr => ?_⟩
    have e : ns' = [(if a ≤ b then a else b), (if a ≤ b then b else a)] := by
      have hl := hp.length_eq
      match ns', hl with
      | [x, y], _ =>
        have h1 : x ≤ y := (List.pairwise_cons.mp hs).1 y (by simp)
        have m1 : x ∈ [a, b] := hp.mem_iff.mp (by simp)
        have m2 : y ∈ [a, b] := hp.mem_iff.mp (by simp)
        have m3 : a ∈ [x, y] := hp.mem_iff.mpr (by simp)
        have m4 : b ∈ [x, y] := hp.mem_iff.mpr (by simp)
        simp only [List.mem_cons, List.not_mem_nil, or_false] at m1 m2 m3 m4
        by_cases c : a ≤ b
        · rw [if_pos c, if_pos c]
          have : x = a ∧ y = b := by omega
          rw [this.1, this.2]
        · rw [if_neg c, if_neg c]
          have : x = b ∧ y = a := by omega
          rw [this.1, this.2]
    subst e
    refine q r _ G _ (f.tr0 (Fr.hid f.r hr)) (f.a.free hr) (f.r.free hr) upd_same ?_
    exact .cons (.int _) (.cons (.int _) .nil)
end
end Pf
namespace Pf
open PySem PySem.Spec PyProof.Rows L2
section
variable {K : PySem.W.Frag} {X : WX} {env env1 : List SV} {ta : TE} {t : TS} {oc : Oc} {xs : List PyData}
/-- any(a list of truth values) -/
theorem ev_any {bs : List Bool} (ha : EvL K ta env (bs.map .bool)) : Ev K (tCB (rAny K) (tCons ta tNil)) env (.bool (bs.any id)) := fun σ H H1 st Q q =>
  ha σ H H1 st _ fun p vs G H2 f h2 dv => by
    have e := dpa_bls dv
    subst e
    exact ⟨p, bs, rfl, .inl (.inl h2), q _ G H2 f (.bl _)⟩
/-- xs[1:] -/
theorem cutD_from (xs : List PyData) (a : Nat) : cutD xs (some (a : Int)) none = xs.drop a := by
  unfold cutD
  rw [HT.sIx_nat]
  have e : HT.sIx xs.length xs.length none = xs.length := rfl
  rw [e]
  by_cases c : a ≤ xs.length
  · rw [Nat.min_eq_left c]
    exact List.take_of_length_le (by rw [List.length_drop]; omega)
  · have e1 : xs.drop a = [] := List.drop_eq_nil_of_le (by omega)
    have e2 : xs.drop (min a xs.length) = [] := List.drop_eq_nil_of_le (by omega)
    rw [e1, e2, List.take_nil]
theorem sx_last (h : Sx K X (tSeq t tNext) env oc) : Sx K X t env oc := h
end
end Pf
namespace Pf
open PySem PySem.Spec PyProof.Rows L2
theorem sx_raise {K : PySem.W.Frag} {X : WX} {env : List SV} {c : Value} : Sx K X (fun _ σ H => X c none σ H) env (.ex c env) := fun σ H H1 st D q => q σ H H1 (Fr.refl st.e) st fun l z => .inl z
end Pf
namespace Pf
open PySem PySem.Spec PyProof.Rows L2
section
variable {K : PySem.W.Frag} {X : WX} {env env1 : List SV} {ta : TE} {t u : TS} {oc : Oc} {xs : List PyData}
/-- for over range(a, b), a turn may end the whole -/
theorem sx_forR2E {n : Nat} {aa : TA} {g : TG} {lo k : Int} (h : EvA K aa env [.int lo, .int k]) (hk : -100000 ≤ k ∧ k ≤ 100000) (hlo : -100000 ≤ lo ∧ lo ≤ 100000) (hn : (k - lo).toNat = n) (Inv : Nat → List SV) (h0 : Inv 0 = env) (o : Nat → Bool) (ex : Oc) (hx : ex.isNx = false) (hb : ∀ e, ex ≠ .bk e) (hc : ∀ e, ex ≠ .ct e)
    (go : ∀ i : Nat, i < n → (∀ j, j < i → o j = false) → ∃ env', Tg K g (Inv i) (.int (lo + i)) env' ∧ ((o i = false → Go K X t env' (Inv (i + 1))) ∧ (o i = true → oc = ex ∧ Sx K X t env' ex)))
    (rest : (∀ j, j < n → o j = false) → Sx K X u (Inv n) oc) : Sx K X (tSeq (tFor (iRng2 aa) g t) u) env oc := fun σ H H1 st D q => by
  refine h σ H H1 st _ fun vs G0 H2 f dv => ?_
  cases dv with
  | cons a b =>
    cases b with
    | cons b c =>
      cases c; cases a; cases b
      have f' : Fr (Ow σ env) H H1 G0 H2 := f.mono fun _ z => z.elim
      refine ⟨lo, k, rfl, by omega, for_range (lo := lo) (n := (k - lo).toNat) (fun i σ' H' => Pt K (Ow σ env) G0 H2 Inv i σ' H' ∧ ∀ j, j < i → o j = false) ⟨⟨G0, Fr.refl f.r, by rw [h0]; exact st.mono f, fun l z => .inl (by rw [h0] at z; exact z)⟩, fun j hj => absurd hj (Nat.not_lt_zero j)⟩ (fun i σ' H' hi p => ?_) (fun σ' H' p => ?_)⟩
      · obtain ⟨⟨G, f2, st2, ow⟩, hj⟩ := p
        obtain ⟨env', tg, g1, g2⟩ := go i (by omega) hj
        refine tg σ' G H' _ st2 (.int _) _ fun σ2 st3 o3 => ?_
        have ow3 : ∀ l, Ow σ2 env' l → Ow σ env l ∨ H2 l = none := fun l z => ow l (o3 l z)
        cases hoi : o i with
        | false =>
          have nx : ∀ σ3 G3 H3, Fr (Ow σ2 env') G H' G3 H3 → Stt K G3 H3 σ3 (Inv (i + 1)) → (∀ l, Ow σ3 (Inv (i + 1)) l → Ow σ2 env' l ∨ H' l = none) → Pt K (Ow σ env) G0 H2 Inv (i + 1) σ3 H3 ∧ ∀ j, j < i + 1 → o j = false := fun σ3 G3 H3 f3 st4 o4 =>
            ⟨⟨G3, f2.trans f3 ow3, st4, fun l z => (o4 l z).elim (ow3 l) fun z => .inr (f2.m l z)⟩, fun j hj' => by
              rcases Nat.lt_succ_iff_lt_or_eq.mp hj' with z | z
              · exact hj j z
              · rw [z]; exact hoi⟩
          rcases g1 hoi with w | w
          · exact w σ2 G H' st3 _ nx
          · exact w σ2 G H' st3 _ nx
        | true =>
          obtain ⟨eo, w⟩ := g2 hoi
          refine w σ2 G H' st3 _ ?_
          have q' : OcOk K X (Ow σ2 env') D G H' ex := by
            rw [eo] at q
            refine (q.tr f' fun l z => .inl z).tr f2 ow3
          cases ex with
          | nx e => cases hx
          | bk e => exact absurd rfl (hb e)
          | ct e => exact absurd rfl (hc e)
          | ex c e => exact q'
          | rt d => exact q'
          | rl x => exact q'
          | rr v => exact q'
          | rw vs e => exact q'
          | rk xs => exact q'
          | rg k xs rs => exact q'
          | ry P w kvs => exact q'
          | rb => exact q'
      · obtain ⟨⟨G, f2, st2, ow⟩, hj⟩ := p
        rw [hn] at st2 ow hj
        exact rest hj σ' G H' st2 D ((q.tr f' fun l z => .inl z).tr f2 ow)
end
end Pf
namespace Pf
open PySem PySem.Spec PyProof.Rows L2
theorem turn_by {K : PySem.W.Frag} {X : WX} {env env2 : List SV} {t : TS} {oc oc' ex : Oc} {b : Bool} (h : Sx K X t env oc') (h0 : b = false → oc' = .nx env2) (h1 : b = true → oc = ex ∧ oc' = ex) : (b = false → Go K X t env env2) ∧ (b = true → oc = ex ∧ Sx K X t env ex) :=
  ⟨fun z => .inl (h.to (h0 z)), fun z => ⟨(h1 z).1, h.to (h1 z).2⟩⟩
end Pf
namespace Pf
open PySem PySem.Spec PyProof.Rows L2
theorem te_K {X : Cx} {K : PySem.W.Frag} {e : Expr} {T : String} {r : V → List V → Hp → VK → Prop} {o : TE} {t : TA} (h : PE X e (tBM X.K T r o t)) (hK : X.K = K) : PE X e (tBM K T r o t) := hK ▸ h
end Pf

namespace Pf
open PySem PySem.Spec PyProof.Rows L2
section
variable {K : PySem.W.Frag} {X : WX} {env env1 env2 : List SV} {ta tb tc te tl ti : TE} {aa : TA} {t u ts : TS} {tt : TT} {d e : PyData} {i j k : Nat} {xs ys ds : List PyData} {oc : Oc} {P : Oc → Prop} {H H1 G H2 : Hp} {σ : L2.St} {l : Addr} {v w : V} {vs : List V}
/-- a slot is told otherwise -/
theorem Stt.re {s s' : SV} (h : Stt K H H1 σ env) (hi : env[i]? = some s) (ok : ∀ o, σ[i]? = some o → OkS K H H1 o s → OkS K H H1 o s') (ow : s'.isOwn = true → s.isOwn = true) : Stt K H H1 σ (env.set i s') := by
  have hl : i < env.length := (List.getElem?_eq_some_iff.mp hi).1
  have own : ∀ (j : Nat) z, (env.set i s')[j]? = some z → z.isOwn = true → ∃ z', env[j]? = some z' ∧ z'.isOwn = true := fun j z b o => by
    by_cases c : i = j
    · subst c
      rw [List.getElem?_set_self hl] at b; cases b
      exact ⟨s, hi, ow o⟩
    · rw [List.getElem?_set_ne c] at b
      exact ⟨z, b, o⟩
  refine ⟨h.e, by rw [List.length_set]; exact h.l, fun j o z a b => ?_, fun j k z z' l hjk b1 b2 o1 o2 a1 => ?_⟩
  · by_cases c : i = j
    · subst c
      rw [List.getElem?_set_self hl] at b; cases b
      exact ok o a (h.ok i o s a hi)
    · rw [List.getElem?_set_ne c] at b
      exact h.ok j o z a b
  · obtain ⟨y, e1, e2⟩ := own j z b1 o1
    obtain ⟨y', e3, e4⟩ := own k z' b2 o2
    exact h.ne j k y y' l hjk e1 e3 e2 e4 a1
theorem Ow.re {s s' : SV} (hi : env[i]? = some s) (ow : s'.isOwn = true → s.isOwn = true) {p : Addr} (z : Ow σ (env.set i s') p) : Ow σ env p := by
  have hl : i < env.length := (List.getElem?_eq_some_iff.mp hi).1
  obtain ⟨j, y, a, b, c⟩ := z
  by_cases e : i = j
  · subst e
    rw [List.getElem?_set_self hl] at a; cases a
    exact ⟨i, s, hi, ow b, c⟩
  · rw [List.getElem?_set_ne e] at a
    exact ⟨j, y, a, b, c⟩
theorem Stt.ownA (st : Stt K H H1 σ env) (h : env[i]? = some (.ownA l xs)) : ∃ vs, σ[i]? = some (some (.ref l)) ∧ H l = none ∧ H1 l = some (.lst vs) ∧ DpAll K H vs xs := by
  obtain ⟨o, a, b⟩ := st.get h
  obtain ⟨rfl, vs, c⟩ := b
  exact ⟨vs, a, c⟩
/-- a slot takes what is not its own -/
theorem Stt.setV {s₀ : SV} (h : Stt K H H1 σ env) (h0 : s₀.isOwn = false) (ok : OkS K H H1 (some v) s₀) : Stt K H H1 (σ.set i (some v)) (env.set i s₀) := by
  refine ⟨h.e, by rw [List.length_set, List.length_set]; exact h.l, fun j o s a b => ?_, fun j k s t l hjk b1 b2 o1 o2 a1 => ?_⟩
  · by_cases c : i = j
    · subst c
      have hi : i < σ.length := by have := (List.getElem?_eq_some_iff.mp a).1; rwa [List.length_set] at this
      have hi' : i < env.length := by rw [← h.l]; exact hi
      rw [List.getElem?_set_self hi] at a
      rw [List.getElem?_set_self hi'] at b
      cases a; cases b
      exact ok
    · rw [List.getElem?_set_ne c] at a b
      exact h.ok j o s a b
  · have c1 : i ≠ j := fun c => by
      subst c
      have hi' : i < env.length := by have := (List.getElem?_eq_some_iff.mp b1).1; rwa [List.length_set] at this
      rw [List.getElem?_set_self hi'] at b1
      cases b1; rw [h0] at o1; cases o1
    have c2 : i ≠ k := fun c => by
      subst c
      have hi' : i < env.length := by have := (List.getElem?_eq_some_iff.mp b2).1; rwa [List.length_set] at this
      rw [List.getElem?_set_self hi'] at b2
      cases b2; rw [h0] at o2; cases o2
    rw [List.getElem?_set_ne c1] at a1 b1
    rw [List.getElem?_set_ne c2] at b2 ⊢
    exact h.ne j k s t l hjk b1 b2 o1 o2 a1
/-- one's own list gets its place's name -/
theorem sn_name (i : Nat) (h : env[i]? = some (.own xs)) (k : ∀ l, Sn K X t (env.set i (.ownA l xs)) P) : Sn K X t env P := fun σ H H1 st D q => by
  obtain ⟨l, vs, a, b, c, dv⟩ := st.own h
  have st' : Stt K H H1 σ (env.set i (.ownA l xs)) := st.re h (fun o e _ => by
    rw [a] at e; cases e
    exact ⟨rfl, vs, b, c, dv⟩) fun _ => rfl
  exact k l σ H H1 st' D fun oc p => (q oc p).tr (Fr.refl st.e) fun p z => .inl (Ow.re h (fun _ => rfl) z)
/-! values as they are -/
theorem er_own (h : env[i]? = some (.ownA l xs)) : Er K (tVar i) env (.ref l) := fun σ H H1 st Q q => by
  obtain ⟨vs, a, _⟩ := st.ownA h
  exact ⟨_, a, q H H1 (Fr.refl st.e)⟩
theorem er_dat (h : env[i]? = some (.dat d)) (hv : fv d = some v) : Er K (tVar i) env v := fun σ H H1 st Q q => by
  obtain ⟨w, a, b⟩ := st.dat h
  cases dp_fv hv b
  exact ⟨_, a, q H H1 (Fr.refl st.e)⟩
theorem er_rd (h : env[i]? = some (.rd v d)) : Er K (tVar i) env v := fun σ H H1 st Q q => by
  obtain ⟨o, a, b⟩ := st.get h
  obtain ⟨rfl, _⟩ := b
  exact ⟨_, a, q H H1 (Fr.refl st.e)⟩
theorem ev_rd (h : env[i]? = some (.rd v d)) : Ev K (tVar i) env d := fun σ H H1 st Q q => by
  obtain ⟨o, a, b⟩ := st.get h
  obtain ⟨rfl, b⟩ := b
  exact ⟨_, a, q _ H H1 (Fr.refl st.e) b⟩
theorem Stt.tupv (st : Stt K H H1 σ env) (h : env[i]? = some (.tupv vs)) : ∃ p, σ[i]? = some (some (.ref p)) ∧ SqT K H p vs := by
  obtain ⟨o, a, b⟩ := st.get h
  obtain ⟨p, rfl, c⟩ := b
  exact ⟨p, a, c⟩
theorem er_tix {n : Int} (h : env[i]? = some (.tupv vs)) (hn : atI vs n = some v) : Er K (tOp (rIxT K) (tVar i) (tC (.int n))) env v := fun σ H H1 st Q q => by
  obtain ⟨p, a, c⟩ := st.tupv h
  exact ⟨_, a, _, _, n, v, rfl, rfl, sqt st.e c, hn, q H H1 (Fr.refl st.e)⟩
def ErA (K : PySem.W.Frag) (ta : TA) (env : List SV) (vs : List V) : Prop := ∀ σ H H1, Stt K H H1 σ env → ∀ Q : List V → Hp → Prop, (∀ G H2, Fr0 H H1 G H2 → Q vs H2) → ta σ H1 Q
theorem era_nil : ErA K tNil env [] := fun σ H H1 st Q q => q H H1 (Fr.refl st.e)
theorem era_cons {tr : TA} (ha : Er K ta env v) (hr : ErA K tr env vs) : ErA K (tCons ta tr) env (v :: vs) := fun σ H H1 st Q q =>
  ha σ H H1 st _ fun G H2 f => hr σ G H2 (st.mono f) _ fun G3 H3 f3 => q G3 H3 (f.tr0 f3)
/-- (a, b, ..), told as it is -/
theorem sx_setT (h : ErA K aa env vs) (hl : vs.length ≤ 100000) : Sx K X (tAsg (tTup aa) (gName i)) env (.nx (env.set i (.tupv vs))) := fun σ H H1 st D q =>
  h σ H H1 st _ fun G H2 f => ⟨sz_ok hl, fun p hp => by
    have n : Fr0 G H2 (upd G p (.tup vs)) (upd H2 p (.tup vs)) := Fr.new f.r hp
    have st2 := st.mono (f.tr0 n)
    refine q _ _ _ ((f.tr0 n).mono fun _ z => z.elim) (st2.setO (show OkS K (upd G p (.tup vs)) (upd H2 p (.tup vs)) (some (.ref p)) (.tupv vs) from ⟨p, rfl, .inl (.inl upd_same)⟩) fun j s b1 b2 _ z => ?_) fun l z => ?_
    · have h0 := (st.mono f).owned ⟨j, s, b1, b2, z⟩
      exact h0.2 hp
    · rcases Ow.set z with z | ⟨z, _⟩
      · exact .inl z
      · cases z⟩
theorem sx_retT (h : ErA K aa env vs) (hl : vs.length ≤ 100000) : Sx K X (tRet (tTup aa)) env (.rw vs env) := fun σ H H1 st D q =>
  h σ H H1 st _ fun G H2 f => ⟨sz_ok hl, fun p hp => by
    have n : Fr0 G H2 (upd G p (.tup vs)) (upd H2 p (.tup vs)) := Fr.new f.r hp
    exact q p σ _ _ ((f.tr0 n).mono fun _ z => z.elim) (.inl (.inl upd_same)) (st.mono (f.tr0 n)) fun l z => .inl z⟩
theorem sx_retR (h : Er K te env v) : Sx K X (tRet te) env (.rr v) := fun σ H H1 st D q =>
  h σ H H1 st _ fun G H2 f => q G H2 (f.mono fun _ z => z.elim)
theorem el_A (h : env[i]? = some (.ownA l xs)) : EvL K (tVar i) env xs := fun σ H H1 st Q q => by
  obtain ⟨vs, a, b, c, dv⟩ := st.ownA h
  exact ⟨_, a, q l vs H H1 (Fr.refl st.e) c dv⟩
theorem el_er (h : Er K te env (.ref l)) (h' : env[i]? = some (.ownA l xs)) : EvL K te env xs := fun σ H H1 st Q q =>
  h σ H H1 st _ fun G H2 f => by
    obtain ⟨vs, a, b, c, dv⟩ := (st.mono f).ownA h'
    exact q l vs G H2 f c dv
/-! writing to one's own -/
theorem Stt.write {s s' : SV} {o : HO} (st : Stt K H H1 σ env) (h : env[i]? = some s) (ho : s.isOwn = true) (a : σ[i]? = some (some (.ref l))) (ok : OkS K H (upd H1 l o) (some (.ref l)) s') (o' : s'.isOwn = true) :
    Stt K H (upd H1 l o) σ (env.set i s') ∧ Fr (Ow σ env) H H1 H (upd H1 l o) ∧ ∀ p, Ow σ (env.set i s') p → Ow σ env p := by
  have hw : Ow σ env l := ⟨i, _, h, ho, a⟩
  have b := (st.owned hw).1
  have hi : i < env.length := (List.getElem?_eq_some_iff.mp h).1
  have e2 : Same H (upd H1 l o) := fun p o z => by
    rw [upd_ne (ne_of_none z b)]; exact st.e p o z
  refine ⟨⟨e2, by rw [List.length_set]; exact st.l, fun j x z ea eb => ?_, fun j k z z' p hjk b1 b2 o1 o2 a1 => ?_⟩, ⟨Same.refl _, e2, fun p x nw z => ?_, fun p nw z _ => z, fun p z => upd_none z⟩, fun p z => Ow.re h (fun _ => ho) z⟩
  · by_cases ej : i = j
    · subst ej
      rw [a] at ea; cases ea
      rw [List.getElem?_set_self hi] at eb; cases eb
      exact ok
    · rw [List.getElem?_set_ne ej] at eb
      have okj := st.ok j x z ea eb
      cases z with
      | no => trivial
      | dat d => exact okj
      | own zs =>
        obtain ⟨l2, ws, q1, q2, q3, q4⟩ := okj
        subst q1
        have n : l2 ≠ l := fun z => st.ne i j _ _ l ej h eb ho rfl a (z ▸ ea)
        exact ⟨l2, ws, rfl, q2, by rw [upd_ne n]; exact q3, q4⟩
      | obj x =>
        obtain ⟨l2, q1, q2, q3⟩ := okj
        subst q1
        have n : l2 ≠ l := fun z => st.ne i j _ _ l ej h eb ho rfl a (z ▸ ea)
        exact ⟨l2, rfl, q2, by rw [upd_ne n]; exact q3⟩
      | raw v => exact okj
      | dct P w kvs =>
        obtain ⟨l2, ws, q1, q2, q3, q4⟩ := okj
        subst q1
        have n : l2 ≠ l := fun z => st.ne i j _ _ l ej h eb ho rfl a (z ▸ ea)
        exact ⟨l2, ws, rfl, q2, by rw [upd_ne n]; exact q3, q4⟩
      | stk w ks =>
        obtain ⟨l2, ws, q1, q2, q3, q4⟩ := okj
        subst q1
        have n : l2 ≠ l := fun z => st.ne i j _ _ l ej h eb ho rfl a (z ▸ ea)
        exact ⟨l2, ws, rfl, q2, by rw [upd_ne n]; exact q3, q4⟩
      | dcf P w kvs => exact okj
      | kl xs => exact okj
      | kpg k xs rs => exact okj
      | kep n xs ys => exact okj
      | rd v d => exact okj
      | tupv ws => exact okj
      | ownA l2 zs =>
        obtain ⟨q1, ws, q2, q3, q4⟩ := okj
        subst q1
        have n : l2 ≠ l := fun z => st.ne i j _ _ l ej h eb ho rfl a (z ▸ ea)
        exact ⟨rfl, ws, q2, by rw [upd_ne n]; exact q3, q4⟩
  · have ow : ∀ (j : Nat) y, (env.set i s')[j]? = some y → y.isOwn = true → ∃ y', env[j]? = some y' ∧ y'.isOwn = true := fun j y bb oo => by
      by_cases c : i = j
      · subst c; exact ⟨s, h, ho⟩
      · rw [List.getElem?_set_ne c] at bb; exact ⟨y, bb, oo⟩
    obtain ⟨y, e1, e2⟩ := ow j z b1 o1
    obtain ⟨y', e3, e4⟩ := ow k z' b2 o2
    exact st.ne j k y y' p hjk e1 e3 e2 e4 a1
  · have n : p ≠ l := fun z => nw (z ▸ hw)
    rw [upd_ne n]; exact z
theorem dpa_set {v : V} {d : PyData} : ∀ {vs : List V} {ds : List PyData} (n : Nat), DpAll K H vs ds → Dp K H v d → DpAll K H (vs.set n v) (ds.set n d)
  | _, _, _, .nil, _ => .nil
  | _, _, 0, .cons _ b, h => .cons h b
  | _, _, n + 1, .cons a b, h => .cons a (dpa_set n b h)
/-- xs[k] = e, the list at a named place -/
theorem sx_setIA {n : Int} {j : Nat} (h : env[i]? = some (.ownA l xs)) (he : Ev K te env d) (hk : Ev K ti env (.int n)) (hj : ixN xs.length n = some j) : Sx K X (tAsg te (gSub (tVar i) ti rSetL)) env (.nx (env.set i (.ownA l (xs.set j d)))) := fun σ H H1 st D q =>
  he σ H H1 st _ fun v G H2 f dv => by
    have st2 := st.mono f
    obtain ⟨vs, a, b, c, dl⟩ := st2.ownA h
    refine ⟨_, a, hk σ G H2 st2 _ fun x G3 H3 f3 dx => ?_⟩
    cases dx
    have st3 := st2.mono f3
    obtain ⟨vs, a, b, c, dl⟩ := st3.ownA h
    refine ⟨l, vs, n, j, rfl, rfl, c, by rw [dpa_len dl]; exact hj, ?_⟩
    obtain ⟨w1, w2, w3⟩ := st3.write (o := .lst (vs.set j v)) (s' := .ownA l (xs.set j d)) h rfl a ⟨rfl, vs.set j v, b, upd_same, dpa_set j dl (dm f3.g dv)⟩ rfl
    exact q σ _ _ (((f.tr0 f3).mono fun _ z => z.elim).trans w2 fun p z => .inl z) w1 fun p z => .inl (w3 p z)
/-- xs[k] = e, one's own list -/
theorem sx_setI {n : Int} {j : Nat} (h : env[i]? = some (.own xs)) (he : Ev K te env d) (hk : Ev K ti env (.int n)) (hj : ixN xs.length n = some j) : Sx K X (tAsg te (gSub (tVar i) ti rSetL)) env (.nx (env.set i (.own (xs.set j d)))) := fun σ H H1 st D q =>
  he σ H H1 st _ fun v G H2 f dv => by
    have st2 := st.mono f
    obtain ⟨l, vs, a, b, c, dl⟩ := st2.own h
    refine ⟨_, a, hk σ G H2 st2 _ fun x G3 H3 f3 dx => ?_⟩
    cases dx
    have st3 := st2.mono f3
    obtain ⟨l', vs', a', b', c', dl'⟩ := st3.own h
    rw [a] at a'; cases a'
    refine ⟨l, vs', n, j, rfl, rfl, c', by rw [dpa_len dl']; exact hj, ?_⟩
    obtain ⟨w1, w2, w3⟩ := st3.write (o := .lst (vs'.set j v)) (s' := .own (xs.set j d)) h rfl a ⟨l, vs'.set j v, rfl, b', upd_same, dpa_set j dl' (dm f3.g dv)⟩ rfl
    exact q σ _ _ (((f.tr0 f3).mono fun _ z => z.elim).trans w2 fun p z => .inl z) w1 fun p z => .inl (w3 p z)
/-- o.append(e), o the list at a named place -/
theorem sx_appA (ho : Er K ta env (.ref l)) (h : env[i]? = some (.ownA l xs)) (he : Ev K te env d) (hz : xs.length < 100000) : Sx K X (tDrop (tBM K "list" rAppend ta (tCons te tNil))) env (.nx (env.set i (.ownA l (xs ++ [d])))) := fun σ H H1 st D q =>
  ho σ H H1 st _ fun G H2 f => by
    have st2 := st.mono f
    obtain ⟨vs, a, b, c, dl⟩ := st2.ownA h
    refine ⟨.inl ⟨rfl, _, .inl (.inl c)⟩, he σ G H2 st2 _ fun v G3 H3 f3 dv => ?_⟩
    have st3 := st2.mono f3
    obtain ⟨vs, a, b, c, dl⟩ := st3.ownA h
    refine ⟨l, vs, v, rfl, rfl, c, sz_lt (by rw [dpa_len dl]; exact hz), ?_⟩
    obtain ⟨w1, w2, w3⟩ := st3.write (o := .lst (vs ++ [v])) (s' := .ownA l (xs ++ [d])) h rfl a ⟨rfl, vs ++ [v], b, upd_same, dpa_app dl (.cons dv .nil)⟩ rfl
    exact q σ _ _ (((f.tr0 f3).mono fun _ z => z.elim).trans w2 fun p z => .inl z) w1 fun p z => .inl (w3 p z)
/-! lists at named places, lent as data -/
theorem Stt.freezeA (st : Stt K H H1 σ env) (h : env[i]? = some (.ownA l xs)) : ∃ vs : List V, H l = none ∧ H1 l = some (.lst vs) ∧ DpAll K H vs xs ∧ Stt K (upd H l (.lst vs)) H1 σ (env.set i (.dat (.list xs))) := by
  have hi : i < env.length := (List.getElem?_eq_some_iff.mp h).1
  obtain ⟨vs, a, b, c, dv⟩ := st.ownA h
  have st' : Stt K H H1 σ (env.set i (.own xs)) := st.re h (fun o e _ => by
    rw [a] at e; cases e
    exact ⟨l, vs, rfl, b, c, dv⟩) fun _ => rfl
  obtain ⟨l', vs', a', b', c', st2⟩ := st'.freeze (i := i) (xs := xs) (List.getElem?_set_self hi)
  rw [a] at a'; cases a'
  rw [c] at c'; cases c'
  rw [List.set_set] at st2
  exact ⟨vs, b, c, dv, st2⟩
theorem Stt.lend {l1 l2 : Addr} {n : Int} (st : Stt K H H1 σ env) (hi : env[i]? = some (.ownA l1 xs)) (hj : env[j]? = some (.ownA l2 ys)) (hk : env[k]? = some (.tupv [.int n, .ref l1, .ref l2])) (ij : i ≠ j) (ik : i ≠ k) (jk : j ≠ k) :
    ∃ H', Stt K H' H1 σ (((env.set i (.dat (.list xs))).set j (.dat (.list ys))).set k (.dat (.tuple [.int n, .list xs, .list ys]))) ∧ ∀ G H2, Fr0 H' H1 G H2 → Fr0 H H1 H H2 := by
  have hil : i < env.length := (List.getElem?_eq_some_iff.mp hi).1
  obtain ⟨vs, b1, c1, d1, st1⟩ := st.freezeA hi
  have hj' : (env.set i (.dat (.list xs)))[j]? = some (.ownA l2 ys) := by rw [List.getElem?_set_ne ij]; exact hj
  obtain ⟨ws, b2, c2, d2, st2⟩ := st1.freezeA hj'
  have hk' : ((env.set i (.dat (.list xs))).set j (.dat (.list ys)))[k]? = some (.tupv [.int n, .ref l1, .ref l2]) := by rw [List.getElem?_set_ne jk, List.getElem?_set_ne ik]; exact hk
  have s1 := newS (o := .lst vs) b1
  have s2 := newS (o := .lst ws) b2
  refine ⟨_, st2.re hk' (fun o _ ok => ?_) (fun z => nomatch z), fun G H2 f => ⟨Same.refl _, (s1.trans s2).trans (f.g.trans f.r), f.s, fun _ _ z _ => z, f.m⟩⟩
  obtain ⟨p, rfl, sq⟩ := ok
  have e1 : (upd (upd H l1 (.lst vs)) l2 (.lst ws)) l1 = some (.lst vs) := s2 _ _ upd_same
  exact ⟨_, rfl, .tup sq (.cons (.int n) (.cons (dp_list e1 (dms (s1.trans s2) d1)) (.cons (dp_list upd_same (dms s2 d2)) .nil)))⟩
theorem flat_ev {H : Hp} {w : V} (hd : fv d = some w) (h : Dp K G v d) : Dp K H v d := by
  revert hd
  cases h <;> intro hd
  · exact .non
  · exact .bl _
  · exact .int _
  · exact .str _
  · cases hd
  · cases hd
/-- within an expression whose answer is flat -/
theorem ev_lend {l1 l2 : Addr} {n : Int} (i j k : Nat) (hi : env[i]? = some (.ownA l1 xs)) (hj : env[j]? = some (.ownA l2 ys)) (hk : env[k]? = some (.tupv [.int n, .ref l1, .ref l2])) (ij : i ≠ j) (ik : i ≠ k) (jk : j ≠ k) (hd : fv d = some w)
    (h : Ev K te (((env.set i (.dat (.list xs))).set j (.dat (.list ys))).set k (.dat (.tuple [.int n, .list xs, .list ys]))) d) : Ev K te env d := fun σ H H1 st Q q => by
  obtain ⟨H', st', back⟩ := st.lend hi hj hk ij ik jk
  exact h σ H' H1 st' Q fun v G H2 f dv => q v H H2 (back G H2 f) (flat_ev hd dv)
theorem et_lend {b : Bool} {l1 l2 : Addr} {n : Int} (i j k : Nat) (hi : env[i]? = some (.ownA l1 xs)) (hj : env[j]? = some (.ownA l2 ys)) (hk : env[k]? = some (.tupv [.int n, .ref l1, .ref l2])) (ij : i ≠ j) (ik : i ≠ k) (jk : j ≠ k)
    (h : EvT K tt (((env.set i (.dat (.list xs))).set j (.dat (.list ys))).set k (.dat (.tuple [.int n, .list xs, .list ys]))) b) : EvT K tt env b := fun σ H H1 st Q q => by
  obtain ⟨H', st', back⟩ := st.lend hi hj hk ij ik jk
  exact h σ H' H1 st' Q fun G H2 f => q H H2 (back G H2 f)
/-! a def that gives its argument back -/
def spId (K : PySem.W.Frag) (R : PyData → Prop) (B : PyData → Value → Prop) : Sp := fun vs H1 Q E => ∃ H v d, Same H H1 ∧ vs = [v] ∧ Dp K H v d ∧ ((R d ∧ ∀ G H2, Fr0 H H1 G H2 → Q v H2) ∨ ∃ c, B d c ∧ ∀ G H2, Fr0 H H1 G H2 → E c none H2)
/-- te gives what the slot holds -/
def EvI (K : PySem.W.Frag) (te : TE) (env : List SV) (k : Nat) : Prop := ∀ σ H H1, Stt K H H1 σ env → ∀ Q : VK, (∀ v G H2, σ[k]? = some (some v) → Fr0 H H1 G H2 → Q v H2) → te σ H1 Q
theorem ei_call {R : PyData → Prop} {B : PyData → Value → Prop} {E : L2.St → XK} (h : env[k]? = some (.dat d)) (hr : R d) : EvI K (tCallS (spId K R B) E (tCons (tVar k) tNil)) env k := fun σ H H1 st Q q => by
  obtain ⟨v, a, b⟩ := st.dat h
  exact ⟨v, a, H, v, d, st.e, rfl, b, .inl ⟨hr, fun G H2 f => q v G H2 a f⟩⟩
theorem EvI.ev (h : EvI K te env k) (hk : env[k]? = some (.dat d)) : Ev K te env d := fun σ H H1 st Q q =>
  h σ H H1 st Q fun v G H2 a f => by
    obtain ⟨w, a', b⟩ := st.dat hk
    rw [a] at a'; cases a'
    exact q v G H2 f (dm f.g b)
theorem evx_callI {R : PyData → Prop} {B : PyData → Value → Prop} {c : Value} (h : env[k]? = some (.dat d)) (hb : B d c) : EvX K X (tCallS (spId K R B) (WE X) (tCons (tVar k) tNil)) env c := fun σ H H1 st Q q => by
  obtain ⟨v, a, b⟩ := st.dat h
  exact ⟨v, a, H, v, d, st.e, rfl, b, .inr ⟨c, hb, fun G H2 f => q G H2 f⟩⟩
/-- the same tuple, once more -/
theorem sx_setSame {l1 l2 : Addr} {n : Int} (i j k : Nat) {m : Nat} (hi : env[i]? = some (.ownA l1 xs)) (hj : env[j]? = some (.ownA l2 ys)) (hk : env[k]? = some (.tupv [.int n, .ref l1, .ref l2])) (ij : i ≠ j) (ik : i ≠ k) (jk : j ≠ k)
    (h : EvI K te (((env.set i (.dat (.list xs))).set j (.dat (.list ys))).set k (.dat (.tuple [.int n, .list xs, .list ys]))) k) : Sx K X (tAsg te (gName m)) env (.nx (env.set m (.tupv [.int n, .ref l1, .ref l2]))) := fun σ H H1 st D q => by
  obtain ⟨H', st', back⟩ := st.lend hi hj hk ij ik jk
  refine h σ H' H1 st' _ fun v G H2 a f => ?_
  have f' := back G H2 f
  have st2 := st.mono f'
  obtain ⟨p, a', sq⟩ := st2.tupv hk
  rw [a] at a'; cases a'
  refine q _ H H2 (f'.mono fun _ z => z.elim) (st2.setV rfl (show OkS K H H2 (some (.ref p)) (.tupv [.int n, .ref l1, .ref l2]) from ⟨p, rfl, sq⟩)) fun l z => ?_
  rcases Ow.set z with z | ⟨z, _⟩
  · exact .inl z
  · cases z
end
end Pf

namespace Pf
open PySem PySem.Spec PyProof.Rows L2
section
variable {K : PySem.W.Frag} {X : WX} {env env1 env2 : List SV} {ta tb tc te tl ti : TE} {aa : TA} {t u ts : TS} {tt : TT} {d e : PyData} {i j k : Nat} {xs ys ds : List PyData} {oc : Oc} {P : Oc → Prop} {H H1 G H2 : Hp} {σ : L2.St} {l : Addr} {v w : V} {vs : List V}
/-! a tuple's slice; a tuple's for that may end early -/
theorem ev_sliceT {a b : TO} {lo hi : Option Int} (h : Ev K te env (.tuple xs)) (ha : EvP K a env lo) (hb : EvP K b env hi) : Ev K (tSl (rSlA K) te a b) env (.tuple (cutD xs lo hi)) := fun σ H H1 st Q q =>
  h σ H H1 st _ fun v G H2 f d => ha σ G H2 (st.mono f) _ fun G2 H3 f2 => hb σ G2 H3 ((st.mono f).mono f2) _ fun G3 H4 f3 => by
    cases d with
    | @tup a vs _ hl hd =>
      have ff := (f.tr0 f2).tr0 f3
      have hd3 := dms (f2.g.trans f3.g) hd
      have hl3 : SqT K H4 a vs := sqt f3.r (sqt (f2.g.trans f3.g) hl)
      have hl4 : SqT K G3 a vs := sqt (f2.g.trans f3.g) hl
      refine ⟨a, vs, rfl, hl3, fun z => ?_, fun _ p hp => ?_⟩
      · have e : cutD xs lo hi = xs := by
          unfold cutD
          rw [← dpa_len hd, z.1, z.2]
          rw [List.drop_zero, List.take_of_length_le (by rw [← dpa_len hd]; omega)]
        rw [e] at q
        exact q _ G3 H4 ff (.tup hl4 hd3)
      · have n : Fr0 G3 H4 (upd G3 p (.tup (cutV vs lo hi))) (upd H4 p (.tup (cutV vs lo hi))) := Fr.new f3.r hp
        refine q _ _ _ (ff.tr0 n) (.tup (.inl (.inl upd_same)) (dms n.g ?_))
        unfold cutV cutD
        rw [dpa_len hd]
        exact dpa_take _ (dpa_drop _ hd3)
theorem sx_forTE {g : TG} (h : Ev K tl env (.tuple ds)) (Inv : Nat → List SV) (h0 : Inv 0 = env) (o : Nat → Bool) (ex : Oc) (hx : ex.isNx = false) (hb : ∀ e, ex ≠ .bk e) (hc : ∀ e, ex ≠ .ct e)
    (go : ∀ (i : Nat) (d : PyData), ds[i]? = some d → (∀ j, j < i → o j = false) → ∃ env', Tg K g (Inv i) d env' ∧ ((o i = false → Go K X t env' (Inv (i + 1))) ∧ (o i = true → oc = ex ∧ Sx K X t env' ex)))
    (rest : (∀ j, j < ds.length → o j = false) → Sx K X u (Inv ds.length) oc) : Sx K X (tSeq (tFor (iTup K tl) g t) u) env oc := fun σ H H1 st D q => by
  refine h σ H H1 st _ fun v G0 H2 f dv => ?_
  cases dv with
  | @tup a vs _ hl hd =>
    have f' : Fr (Ow σ env) H H1 G0 H2 := f.mono fun _ z => z.elim
    have stay : ∀ {G H' : Hp}, Fr (Ow σ env) G0 H2 G H' → SqT K H' a vs := fun {G H'} f2 => sqt f2.r (sqt f2.g hl)
    refine ⟨a, rfl, ⟨vs, sqt f.r hl⟩, for_tup (K := K) (a := a) (xs := vs) (fun i σ' H' => Pt K (Ow σ env) G0 H2 Inv i σ' H' ∧ ∀ j, j < i → o j = false) ⟨⟨G0, Fr.refl f.r, by rw [h0]; exact st.mono f, fun l z => .inl (by rw [h0] at z; exact z)⟩, fun j hj => absurd hj (Nat.not_lt_zero j)⟩ (fun i σ' H' _ p => ?_) (fun i x σ' H' hi p => ?_) (fun σ' H' p => ?_)⟩
    · obtain ⟨⟨G, f2, _, _⟩, _⟩ := p
      exact stay f2
    · obtain ⟨⟨G, f2, st2, ow⟩, hj⟩ := p
      obtain ⟨d, e1, e2⟩ := dpa_get hd hi
      obtain ⟨env', tg, g1, g2⟩ := go i d e1 hj
      refine tg σ' G H' x st2 (dm f2.g e2) _ fun σ2 st3 o3 => ?_
      have ow3 : ∀ l, Ow σ2 env' l → Ow σ env l ∨ H2 l = none := fun l z => ow l (o3 l z)
      cases hoi : o i with
      | false =>
        have nx : ∀ σ3 G3 H3, Fr (Ow σ2 env') G H' G3 H3 → Stt K G3 H3 σ3 (Inv (i + 1)) → (∀ l, Ow σ3 (Inv (i + 1)) l → Ow σ2 env' l ∨ H' l = none) → Pt K (Ow σ env) G0 H2 Inv (i + 1) σ3 H3 ∧ ∀ j, j < i + 1 → o j = false := fun σ3 G3 H3 f3 st4 o4 =>
          ⟨⟨G3, f2.trans f3 ow3, st4, fun l z => (o4 l z).elim (ow3 l) fun z => .inr (f2.m l z)⟩, fun j hj' => by
            rcases Nat.lt_succ_iff_lt_or_eq.mp hj' with z | z
            · exact hj j z
            · rw [z]; exact hoi⟩
        rcases g1 hoi with w | w
        · exact w σ2 G H' st3 _ nx
        · exact w σ2 G H' st3 _ nx
      | true =>
        obtain ⟨eo, w⟩ := g2 hoi
        refine w σ2 G H' st3 _ ?_
        have q' : OcOk K X (Ow σ2 env') D G H' ex := by
          rw [eo] at q
          refine (q.tr f' fun l z => .inl z).tr f2 ow3
        cases ex with
        | nx e => cases hx
        | bk e => exact absurd rfl (hb e)
        | ct e => exact absurd rfl (hc e)
        | ex c e => exact q'
        | rt d => exact q'
        | rl x => exact q'
        | rr v => exact q'
        | rw vs e => exact q'
        | rk xs => exact q'
        | rg k xs rs => exact q'
        | ry P w kvs => exact q'
        | rb => exact q'
    · obtain ⟨⟨G, f2, st2, ow⟩, hj⟩ := p
      rw [dpa_len hd] at st2 ow hj
      exact rest hj σ' G H' st2 D ((q.tr f' fun l z => .inl z).tr f2 ow)
/-! raise C(args) -/
theorem sx_raiseA {c : Value} (h : EvA K aa env ds) (hz : ds.length ≤ 100000) : Sx K X (fun _ σ H => aa σ H fun vs H1 => vs.length ≤ sizeLine ∧ X c none σ H1) env (.ex c env) := fun σ H H1 st D q =>
  h σ H H1 st _ fun vs G H2 f dv => ⟨by rw [dpa_len dv]; exact sz_ok hz, q σ G H2 (f.mono fun _ z => z.elim) (st.mono f) fun l z => .inl z⟩
/-! f"..{n}.." -/
theorem ev_fmtI {n : Int} (h : Ev K te env (.int n)) (hn : n.natAbs.log2 < 1920) : Ev K (tFmt te) env (.str (Str.ofString (toString n))) := fun σ H H1 st Q q =>
  h σ H H1 st _ fun v G H2 f d => by
    cases d
    exact .inr ⟨n, rfl, hn, q _ G H2 f (.str _)⟩
theorem ev_js3 {a b c : Str} (ha : Ev K ta env (.str a)) (hb : Ev K tb env (.str b)) (hc : Ev K tc env (.str c)) (h1 : (Str.empty ++ a).length ≤ 100000) (h2 : (Str.empty ++ a ++ b).length ≤ 100000) (h3 : (Str.empty ++ a ++ b ++ c).length ≤ 100000) : Ev K (fun σ H Q => tJs [ta, tb, tc] Str.empty σ H fun out H1 => Q (.str out) H1) env (.str (Str.empty ++ a ++ b ++ c)) := fun σ H H1 st Q q =>
  ha σ H H1 st _ fun v G H2 f d => by
    cases d
    refine ⟨a, rfl, sz_ok h1, hb σ G H2 (st.mono f) _ fun v G3 H3 f3 d3 => ?_⟩
    cases d3
    refine ⟨b, rfl, sz_ok h2, hc σ G3 H3 ((st.mono f).mono f3) _ fun v G4 H4 f4 d4 => ?_⟩
    cases d4
    exact ⟨c, rfl, sz_ok h3, q _ G4 H4 ((f.tr0 f3).tr0 f4) (.str _)⟩
/-! a def whose one argument is kept as it is -/
theorem runI {H H1 : Hp} {N : List Str} {v : V} {n : Nat} {D : Ends} (s : Same H H1) (dv : Dp K H v d) (hn : N.length - 1 = n) (h : Sx K X t (.rd v d :: List.replicate n .no) oc) (q : OcOk K X (fun _ => False) D H H1 oc) : t D (L2.start N [v]) H1 := by
  have st : Stt K H H1 (L2.start N [v]) (.dat d :: List.replicate n .no) := stt_start (ds := [d]) (N := N) s (.cons dv .nil) hn
  have st' : Stt K H H1 (L2.start N [v]) (.rd v d :: List.replicate n .no) := st.re (i := 0) (s := .dat d) (s' := .rd v d) rfl (fun o e _ => by
    have e' : some v = o := Option.some.inj e
    exact ⟨e'.symm, dv⟩) (fun z => nomatch z)
  refine h _ H H1 st' D (q.tr (Fr.refl s) fun p z => (ow_none (fun sv m => ?_) z).elim)
  rcases List.mem_cons.mp m with m | m
  · rw [m]; rfl
  · obtain ⟨_, rfl⟩ := List.mem_replicate.mp m; rfl
/-! a tuple that is kept -/
def EvKn (K : PySem.W.Frag) (te : TE) (env : List SV) (xs : List PyData) : Prop := ∀ σ H H1, Stt K H H1 σ env → ∀ Q : VK, (∀ p vs G H2, Fr0 H H1 G H2 → G p = some (.lst vs) → DpAll K G vs xs → Q (.ref p) H2) → te σ H1 Q
theorem EvO.kn (h : EvO K te env xs) : EvKn K te env xs := fun σ H H1 st Q q =>
  h σ H H1 st _ fun p vs G H2 f h1 hg h2 dv => by
    refine q p vs (upd G p (.lst vs)) H2 ⟨f.g.trans (newS hg), fun b x z => ?_, f.s, fun b hw c1 c2 => ?_, f.m⟩ upd_same (dms (newS hg) dv)
    · by_cases c : b = p
      · subst c; rw [upd_same] at z; cases z; exact h2
      · rw [upd_ne c] at z; exact f.r b x z
    · have c : b ≠ p := fun z => c2 (by rw [z]; exact h1)
      rw [upd_ne c]; exact f.n b hw c1 c2
theorem sx_setK {n : Int} (h0 : Er K ta env (.int n)) (h1 : EvKn K tb env xs) (h2 : EvKn K tc env ys) : Sx K X (tAsg (tTup (tCons ta (tCons tb (tCons tc tNil)))) (gName i)) env (.nx (env.set i (.kep n xs ys))) := fun σ H H1 st D q =>
  h0 σ H H1 st _ fun G1 H2 f1 => h1 σ G1 H2 (st.mono f1) _ fun a vs G2 H3 f2 e2 d2 => h2 σ G2 H3 ((st.mono f1).mono f2) _ fun b ws G3 H4 f3 e3 d3 => ⟨Nat.le_trans (show 3 ≤ 100000 by decide) (by decide), fun p hp => by
    have ff := (f1.tr0 f2).tr0 f3
    have n : Fr0 G3 H4 (upd G3 p (.tup [.int n, .ref a, .ref b])) (upd H4 p (.tup [.int n, .ref a, .ref b])) := Fr.new f3.r hp
    refine q _ _ _ ((ff.tr0 n).mono fun _ z => z.elim) ((st.mono (ff.tr0 n)).setV rfl ⟨p, a, b, vs, ws, rfl, .inl (.inl upd_same), n.g _ _ (f3.g _ _ e2), dms n.g (dms f3.g d2), n.g _ _ e3, dms n.g d3⟩) fun l z => ?_
    rcases Ow.set z with z | ⟨z, _⟩
    · exact .inl z
    · cases z⟩
theorem Stt.kep {n : Int} (st : Stt K H H1 σ env) (h : env[i]? = some (.kep n xs ys)) : ∃ t a b vs ws, σ[i]? = some (some (.ref t)) ∧ SqT K H t [.int n, .ref a, .ref b] ∧ H a = some (.lst vs) ∧ DpAll K H vs xs ∧ H b = some (.lst ws) ∧ DpAll K H ws ys := by
  obtain ⟨o, a, b⟩ := st.get h
  obtain ⟨t, p1, p2, vs, ws, rfl, r⟩ := b
  exact ⟨t, p1, p2, vs, ws, a, r⟩
theorem ev_kep {n : Int} (h : env[i]? = some (.kep n xs ys)) : Ev K (tVar i) env (.tuple [.int n, .list xs, .list ys]) := fun σ H H1 st Q q => by
  obtain ⟨t, a, b, vs, ws, e0, e1, e2, e3, e4, e5⟩ := st.kep h
  exact ⟨_, e0, q _ H H1 (Fr.refl st.e) (.tup e1 (.cons (.int n) (.cons (.lst (.inl (.inl e2)) e3) (.cons (.lst (.inl (.inl e4)) e5) .nil))))⟩
theorem el_kep1 {n : Int} (h : env[i]? = some (.kep n xs ys)) : EvL K (tOp (rIxT K) (tVar i) (tC (.int 1))) env xs := fun σ H H1 st Q q => by
  obtain ⟨t, a, b, vs, ws, e0, e1, e2, e3, e4, e5⟩ := st.kep h
  exact ⟨_, e0, _, _, 1, .ref a, rfl, rfl, sqt st.e e1, rfl, q a vs H H1 (Fr.refl st.e) (st.e _ _ e2) e3⟩
theorem el_kep2 {n : Int} (h : env[i]? = some (.kep n xs ys)) : EvL K (tOp (rIxT K) (tVar i) (tC (.int 2))) env ys := fun σ H H1 st Q q => by
  obtain ⟨t, a, b, vs, ws, e0, e1, e2, e3, e4, e5⟩ := st.kep h
  exact ⟨_, e0, _, _, 2, .ref b, rfl, rfl, sqt st.e e1, rfl, q b ws H H1 (Fr.refl st.e) (st.e _ _ e4) e5⟩
theorem Er.ev (h : Er K te env v) (hd : vd v = some d) : Ev K te env d := fun σ H H1 st Q q =>
  h σ H H1 st Q fun G H2 f => q v G H2 f (vd_dp hd)
end
end Pf

namespace Pf
open PySem PySem.Spec PyProof.Rows L2
/-! ### dicts whose keys are data: told as what is true of the object -/
section
variable {X : Cx} {pins : List (Addr × Obj)} {σ : L2.St} {H : Hp} {s : Shared}
mutual
theorem nest_is (I : L2.Inv X pins σ H s) : ∀ (k : NestedKey) {v : V} {u : Value}, Dp X.K H v k.data → L2.RelV v u → NestedIs s.heap k u
  | .none, v, u, d, r => by
    rw [NestedKey.data] at d; cases d
    have r' : u = .none := r
    subst r'; exact .none
  | .num i, v, u, d, r => by
    rw [NestedKey.data] at d; cases d
    obtain ⟨t, rfl⟩ := r
    exact .int i t
  | .text x, v, u, d, r => by
    rw [NestedKey.data] at d; cases d
    obtain ⟨t, rfl⟩ := r
    exact .text x t
  | .tup ks, v, u, d, r => by
    rw [NestedKey.data] at d
    cases d with
    | tup ht hd =>
      have r' : u = .ref _ := r
      subst r'
      obtain ⟨its, rv, ⟨o, e1, e2, n, e3⟩, _⟩ := I.tuple ht
      exact .tup e1 e2 e3 (nest_all I ks hd (by simpa using rv))
theorem nest_all (I : L2.Inv X pins σ H s) : ∀ (ks : List NestedKey) {vs : List V} {us : List Value}, DpAll X.K H vs (NestedKey.datas ks) → Vals vs us → NestedAll s.heap ks us
  | [], vs, us, d, r => by
    rw [NestedKey.datas] at d; cases d; cases r; exact .nil
  | k :: ks, vs, us, d, r => by
    rw [NestedKey.datas] at d
    cases d with
    | cons a b =>
      cases r with
      | cons e f => exact .cons (nest_is I k a e) (nest_all I ks b f)
end
end
theorem dx_ok {P : Program} {w : World} {H : Hp} {h : Heap} {D : Addr} {xs : List Ent} (d : DX P w D xs h) : ObjOk P w H h D (.ext (DX P w D xs)) := by
  refine ⟨d, ?_, fun h1 h2 ⟨e0, o, es, ep, e1, e2⟩ k => ⟨e0, o, es, ep, k o e1, e2⟩⟩
  obtain ⟨_, o, es, ep, e, _⟩ := d
  exact ⟨o, e⟩
section
variable {X : Cx} {pins : List (Addr × Obj)} {σ : L2.St} {H : Hp} {s : Shared} {D a : Addr} {xs : List Ent} {k : NestedKey}
theorem DAt.dx (I : L2.Inv X pins σ H s) (h : DAt X.prog X.w H D xs) : DX X.prog X.w D xs s.heap := by
  rcases h with h | ⟨o, h⟩
  · exact (I.hok D _ h).1
  · exact (I.hok D _ h).2.1
theorem KeyIn.is (I : L2.Inv X pins σ H s) (h : KeyIn X.K H a k) : (nestedKind X.prog X.w).is s.heap k a := ⟨nest_is I k h.1 rfl, h.2⟩
theorem DAt.of (I : L2.Inv X pins σ H s) (h : DAt X.prog X.w H D xs) (hk : ∀ x ∈ xs, KeyIn X.K H x.2.1 x.1) : (D == sysModules) = false ∧ Heap.DictOfH (nestedKind X.prog X.w) s.heap D xs := by
  obtain ⟨e0, o, es, ep, e1, e2, e3, e4, e5⟩ := h.dx I
  exact ⟨e0, o, es, ep, e1, e2, e3, e4, fun x hx => (hk x hx).is I, e5⟩
def rInX (P : Program) (w : World) (K : PySem.W.Frag) (neg : Bool) : R2 := fun x y H Q => ∃ a D xs k, x = .ref a ∧ y = .ref D ∧ DAt P w H D xs ∧ KeyIn K H a k ∧ (∀ x ∈ xs, KeyIn K H x.2.1 x.1) ∧ Q (.bl (if neg then !(atKey xs k).isSome else (atKey xs k).isSome)) H
theorem op_inX (hr : X.A.units + 65 < cLine) : OpR X (compareOp .In) (rInX X.prog X.w X.K false) := by
  intro pins s σ H x y v u Q I rx ry h
  obtain ⟨a, D, xs, k, rfl, rfl, hD, hk, hx, q⟩ := h
  have r1 : v = .ref a := rx
  have r2 : u = .ref D := ry
  subst r1 r2
  obtain ⟨e0, dd⟩ := hD.of I hx
  exact wpAny_in_heap (knd := nestedKind X.prog X.w) (by show X.A.units + 1 + 8 < cLine; omega) (hk.is I) e0 dd ⟨.bl _, H, I.tok _, rfl, q⟩
theorem op_notInX (hr : X.A.units + 65 < cLine) : OpR X (compareOp .NotIn) (rInX X.prog X.w X.K true) := by
  intro pins s σ H x y v u Q I rx ry h
  obtain ⟨a, D, xs, k, rfl, rfl, hD, hk, hx, q⟩ := h
  have r1 : v = .ref a := rx
  have r2 : u = .ref D := ry
  subst r1 r2
  obtain ⟨e0, dd⟩ := hD.of I hx
  refine notIn_keyed (knd := nestedKind X.prog X.w) (kvs := pairsH xs) (by show X.A.units + 1 + 8 < cLine; omega) (hk.is I) e0 ⟨xs, dd, rfl⟩ ⟨.bl (!(valueAt (pairsH xs) k).isSome), H, I.tok _, rfl, ?_⟩
  rw [valueAt_pairsH]
  have e : (Option.map (fun p : Addr × Value => p.2) (atKey xs k)).isSome = (atKey xs k).isSome := by cases atKey xs k <;> rfl
  rw [e]; exact q
/-- d[k] -/
def rIxX (P : Program) (w : World) (K : PySem.W.Frag) : R2 := fun x y H Q => ∃ a D xs k p v, x = .ref D ∧ y = .ref a ∧ DAt P w H D xs ∧ KeyIn K H a k ∧ (∀ x ∈ xs, KeyIn K H x.2.1 x.1) ∧ atKey xs k = some p ∧ L2.RelV v p.2 ∧ Q v H
theorem ix_X (hr : X.A.units + 65 < cLine) : IxR X (rIxX X.prog X.w X.K) := by
  intro value slice pins s σ H x y v u Q I rx ry h hs
  obtain ⟨a, D, xs, k, p, v0, rfl, rfl, hD, hk, hx, hp, rv, q⟩ := h
  have r1 : v = .ref D := rx
  have r2 : u = .ref a := ry
  subst r1 r2
  obtain ⟨e0, dd⟩ := hD.of I hx
  have dk : Heap.DictKeyed (nestedKind X.prog X.w) s.heap D (pairsH xs) := ⟨xs, dd, rfl⟩
  exact subscriptTail_builtinR (x := p.2) dk.typeIs F.slot_dict_getitem.lookup (wpAny_getItem_heap (knd := nestedKind X.prog X.w) (by show X.A.units + 1 + 8 < cLine; omega) (hk.is I) dd hp ⟨rfl, v0, H, I.tok _, rv, q⟩) hs
/-- d[k] = v -/
def rSetX (P : Program) (w : World) (K : PySem.W.Frag) : TSet := fun o i v H Q => ∃ a D xs k, o = .ref D ∧ i = .ref a ∧ H D = some (.ext (DX P w D xs)) ∧ KeyIn K H a k ∧ (∀ x ∈ xs, KeyIn K H x.2.1 x.1) ∧ xs.length < 100000 ∧ ∀ u, L2.RelV v u → Q (upd H D (.ext (DX P w D (storedH xs k a u))))
theorem set_X (hr : X.A.units + 65 < cLine) : PSet X (rSetX X.prog X.w X.K) := by
  intro pins s σ H o i v ov iv u Q I ro ri rv h
  obtain ⟨a, D, xs, k, rfl, rfl, hD, hk, hx, hz, q⟩ := h
  have r1 : ov = .ref D := ro
  have r2 : iv = .ref a := ri
  subst r1 r2
  obtain ⟨e0, dd⟩ := DAt.of (X := X) (D := D) (xs := xs) I (.inl hD) hx
  refine wpAny_setItem_heap (knd := nestedKind X.prog X.w) (by show X.A.units + 1 + 8 < cLine; omega) (hk.is I) dd (fun h' dd' sb => ?_) (Nat.le_of_lt (sz_lt hz))
  obtain ⟨o, es, ep, e1, e2, e3, e4, e5, e6⟩ := dd'
  exact ⟨_, d_write I (by rw [hD]; trivial) sb ⟨o, e1⟩ (dx_ok ⟨e0, o, es, ep, e1, e2, e3, e4, e6⟩), q u rv⟩
/-- len(d) -/
def rLenX (P : Program) (w : World) (K : PySem.W.Frag) : List V → Hp → VK → Prop := fun vs H Q => ∃ D xs, vs = [.ref D] ∧ DAt P w H D xs ∧ (∀ x ∈ xs, KeyIn K H x.2.1 x.1) ∧ xs.length ≤ 100000 ∧ Q (.int xs.length) H
theorem call_lenX : CallR X (.builtin "len") (rLenX X.prog X.w X.K) := by
  intro pins s σ H vs us Q I r h
  obtain ⟨D, xs, rfl, hD, hx, hz, q⟩ := h
  rw [Vals.ref1 r]
  obtain ⟨e0, dd⟩ := hD.of I hx
  have dk : Heap.DictKeyed (nestedKind X.prog X.w) s.heap D (pairsH xs) := ⟨xs, dd, rfl⟩
  refine PyProof.Rows.call_len_slot (n := (xs.length : Int)) dk.typeIs F.slot_dict_len (fun Q' hq => len_keyed e0 dk (by rw [pairsH_length]; exact hq)) (by omega) (by omega) ⟨.int xs.length, H, I.tok _, ⟨_, rfl⟩, q⟩
/-- d.get(k, x) -/
def rGetX (P : Program) (w : World) (K : PySem.W.Frag) : V → List V → Hp → VK → Prop := fun x vs H Q => ∃ a D xs k d v, x = .ref D ∧ vs = [.ref a, d] ∧ DAt P w H D xs ∧ KeyIn K H a k ∧ (∀ x ∈ xs, KeyIn K H x.2.1 x.1) ∧ (∀ p, atKey xs k = some p → L2.RelV v p.2) ∧ (atKey xs k = none → v = d) ∧ Q v H
theorem mt_getX (hr : X.A.units + 65 < cLine) : MtR X "dict.get" (rGetX X.prog X.w X.K) := by
  intro pins s σ H x vs v us Q I rx rvs h
  obtain ⟨a, D, xs, k, d, v0, rfl, rfl, hD, hk, hx, h1, h2, q⟩ := h
  have r1 : v = .ref D := rx
  subst r1
  obtain ⟨u1, u2, rfl, q1, q2⟩ := L2.vals2 rvs
  have q1' : u1 = .ref a := q1
  subst q1'
  obtain ⟨e0, dd⟩ := hD.of I hx
  refine getOr_keyed (knd := nestedKind X.prog X.w) (kvs := pairsH xs) (by show X.A.units + 1 + 8 < cLine; omega) (hk.is I) e0 ⟨xs, dd, rfl⟩ ⟨v0, H, I.tok _, ?_, q⟩
  rw [valueAt_pairsH]
  cases e : atKey xs k with
  | none => rw [h2 e]; exact q2
  | some p => exact h1 p e
/-- {} -/
def tNewX (P : Program) (w : World) : TE := fun _ H Q => ∀ p : Addr, H p = none → Q (.ref p) (upd H p (.ext (DX P w p [])))
theorem pe_newX {pos : Pos} : PE X (Expr.Dict [] [] pos) (tNewX X.prog X.w) := ⟨fun pins s σ H Q I h =>
  wpAny_Dict_empty ⟨.ref _, _, I.laid (t' := s.toks) (fun b o e => Heap.get?_push_of_some _ e) (Nat.le_refl _) (dx_ok (xs := []) ⟨by
    have := I.big
    show (s.heap.objs.size == 1) = false
    have h2 : (1 : Nat) < s.heap.objs.size := this
    exact beq_false_of_ne (by omega), _, #[], 0, Heap.get?_push_size s.heap rfl, ⟨rfl, rfl, rfl⟩, rfl, rfl, List.nodup_nil⟩), rfl, h _ (I.hok.fresh (Nat.le_refl _))⟩⟩
theorem newX_ok {h : Heap} (hb : sysModules < h.objs.size) : DX X.prog X.w h.objs.size [] (h.push { cls := .type "dict", data := .dict #[] }) := ⟨by
    show (h.objs.size == 1) = false
    have h2 : (1 : Nat) < h.objs.size := hb
    exact beq_false_of_ne (by omega), _, #[], 0, Heap.get?_push_size h rfl, ⟨rfl, rfl, rfl⟩, rfl, rfl, List.nodup_nil⟩
/-- {k: v} -/
def tDispX (P : Program) (w : World) (K : PySem.W.Frag) (tk tv : TE) : TE := fun σ H Q => ∀ D : Addr, H D = none → tPairs [(tk, tv)] σ (upd H D (.ext (DX P w D []))) fun ps H2 => H2 D = some (.ext (DX P w D [])) ∧ ∃ a k v, ps = [(.ref a, v)] ∧ KeyIn K H2 a k ∧ ∀ u, L2.RelV v u → Q (.ref D) (upd H2 D (.ext (DX P w D [(k, a, u)])))
theorem pe_dispX {pos : Pos} {ke ve : Expr} {tk tv : TE} (hr : X.A.units + 65 < cLine) (hk : PE X ke tk) (hv : PE X ve tv) : PE X (Expr.Dict [some ke] [ve] pos) (tDispX X.prog X.w X.K tk tv) := ⟨fun pins s σ H Q I q => by
  have hn := I.hok.fresh (Nat.le_refl s.heap.objs.size)
  have I1 : L2.Inv X pins σ (upd H s.heap.objs.size (.ext (DX X.prog X.w s.heap.objs.size []))) { heap := s.heap.push { cls := .type "dict", data := .dict #[] }, gens := s.gens, drawn := s.drawn, toks := s.toks, os := s.os } := I.laid (t' := s.toks) (fun b o e => Heap.get?_push_of_some _ e) (Nat.le_refl _) (dx_ok (newX_ok I.big))
  have zp := zip_pairTrees [some ke] [ve] X.env pos rfl rfl
  have hlen := pairTrees_length [some ke] [ve] X.env pos rfl rfl
  have hl1 : (pairTrees [some ke] [ve] X.env pos).length = 1 := hlen
  rw [arm_eval_Dict, zp, dictDisplay_pairs _ (fun e => by rw [e] at hl1; cases hl1) (by rw [hl1]; decide)]
  refine wpAny_bind (wpAny_standAt (wpAny_bind (wpAny_subDictH (knd := nestedKind X.prog X.w) (by show X.A.units + 8 < cLine; omega) (by rw [hl1]; decide) (thn ((pps_cons (pos := pos) hk hv pps_nil).run pins _ σ _ _ I1 (q _ hn)) fun ws s2 x => ?_))))
  obtain ⟨ps, H2, I2, rel, eD, a, k, v, rfl, kin, q2⟩ := x
  cases rel with
  | cons r1 r2 =>
    cases r2
    rename_i b
    obtain ⟨b1, b2⟩ := b
    obtain ⟨e1, e2⟩ := r1
    have e1' : b1 = .ref a := e1
    subst e1'
    have dx := (I2.hok _ _ eD).1
    obtain ⟨e0, o, es, ep, f1, f2, f3, f4, f5⟩ := dx
    refine ⟨[(k, a, b2)], ⟨rfl, rfl, kin.is I2, trivial⟩, ⟨o, es, ep, f1, f2, f3, f4, (fun x hx => absurd hx List.not_mem_nil), f5⟩, fun h' tk dd sb => ?_⟩
    obtain ⟨o', es', ep', g1, g2, g3, g4, g5, g6⟩ := dd
    exact wpAny_pure ⟨.ref _, _, d_write I2 (by rw [eD]; trivial) sb ⟨o', g1⟩ (dx_ok (xs := [(k, a, b2)]) ⟨e0, o', es', ep', g1, g2, g3, g4, g6⟩), rfl, q2 b2 e2⟩⟩
/-- for k in d -/
def Itx (P : Program) (w : World) (D : Addr) (o : Obj) (xs : List Ent) : It where
  go := fun i H => H D = some (.frz o (.ext (DX P w D xs))) ∧ i < xs.length
  yld := fun i H x H' => H' = H ∧ ∃ e, xs[i]? = some e ∧ x = .ref e.2.1
  stop := fun i H => H D = some (.frz o (.ext (DX P w D xs))) ∧ xs.length ≤ i
theorem frz_at (I : L2.Inv X pins σ H s) {o : Obj} (h : H D = some (.frz o (.ext (DX X.prog X.w D xs)))) : (D == sysModules) = false ∧ s.heap.get? D = some o ∧ o.ExactDict ∧ ∃ es ep, o.data = .dict es ep ∧ es.size = xs.length ∧ ∀ (i : Nat) (e : Ent), xs[i]? = some e → ∃ en, es[i]? = some en ∧ en.key = .ref e.2.1 := by
  obtain ⟨g, ⟨e0, o', es, ep, e1, e2, e3, e4, e5⟩, _⟩ := I.hok D _ h
  have go : s.heap.get? D = some o := g
  rw [go] at e1; cases e1
  refine ⟨e0, g, e2, es, ep, e3, ?_, fun i e hi => ⟨entryOfKey (nestedKind X.prog X.w) e, ?_, rfl⟩⟩
  · rw [← Array.length_toList, e4, List.length_map]
  · rw [← Array.getElem?_toList, e4, List.getElem?_map, hi]; rfl
theorem turn_X {P : Program} {w : World} {K : PySem.W.Frag} {tg : Expr} {o : Obj} {es : Array DictEntry} {ep : Nat} (it : Addr) (hod : o.data = .dict es ep) : Turn P w K tg (Itx P w D o xs) [it] it fun i h => h.IsKeyIter it D i xs.length ep where
  mem := List.mem_singleton.mpr rfl
  obj := fun i h st b hb => by
    rw [List.mem_singleton.mp hb]
    obtain ⟨oi, e, c, dd⟩ := id st
    exact ⟨oi, e, fun v z => by rw [dd] at z; cases z⟩
  keep := fun i h h' st k => st.at fun oi e => k it (List.mem_singleton.mpr rfl) oi e
  item := fun X hP hw hK hc i pins s σ H E I hf st hg => by
    subst hP hw
    obtain ⟨hd, hi⟩ := hg
    obtain ⟨f0, f1, f2, f3, f4, f5⟩ := hf it (List.mem_singleton.mpr rfl)
    obtain ⟨hs, hgd, hx, es', ep', hdt, hsz, ent⟩ := frz_at I hd
    obtain ⟨rfl, rfl⟩ := dict_ep hod hdt
    obtain ⟨en, hen, hkey⟩ := ent i xs[i] (List.getElem?_eq_getElem hi)
    refine next_key_item st hgd hdt hsz hen fun h' st' sb => ?_
    have I1 := I.turned (h' := h') (t' := s.toks) (fun b ob hb e => (sb.2 b hb).trans e) f0 f1 f3 f4 f5
    obtain ⟨oi, e, c, dd⟩ := id st'
    exact ⟨en.key, rfl, go_of e c dd (by decide) ⟨.ref xs[i].2.1, H, I1, hkey, ⟨rfl, xs[i], List.getElem?_eq_getElem hi, rfl⟩, st', fun b hb => (hf b hb).1⟩⟩
  done := fun X hP hw hK hc i pins s σ H E I hf st hg => by
    subst hP hw
    obtain ⟨hd, hi⟩ := hg
    obtain ⟨f0, f1, f2, f3, f4, f5⟩ := hf it (List.mem_singleton.mpr rfl)
    obtain ⟨hs, hgd, hx, es', ep', hdt, hsz, ent⟩ := frz_at I hd
    obtain ⟨rfl, rfl⟩ := dict_ep hod hdt
    exact next_key_end (I.ok.hd hc) st hgd hdt hsz hi fun h' eb => ⟨rfl, I.turned (t' := s.toks) (fun b ob hb e => eb b ob hb e) f0 f1 f3 f4 f5⟩
  self := fun A i s Q E st h => (turn_keysT (P := P) (w := w) (K := K) (tg := tg) (d := D) (o := o) (kvs := List.replicate xs.length ([], V.non)) it hod).self A i s Q E (by rw [List.length_replicate]; exact st) h
def iX (P : Program) (w : World) (td : TE) : TI := fun σ H R => td σ H fun x H1 => ∃ D xs, x = .ref D ∧ ((H1 D = some (.ext (DX P w D xs)) ∧ ∀ o, R (Itx P w D o xs) (upd H1 D (.frz o (.ext (DX P w D xs))))) ∨ ∃ o, H1 D = some (.frz o (.ext (DX P w D xs))) ∧ R (Itx P w D o xs) H1)
theorem pi_X {tg e : Expr} {td : TE} (he : PE X e td) : PI X tg e (iX X.prog X.w td) := ⟨fun pins s σ H R I h => thn (he.run pins s σ H _ I h) fun u s1 r => by
  obtain ⟨x, H1, I1, rx, D, xs, rfl, q⟩ := r
  have rx' : u = .ref D := rx
  subst rx'
  have fin : ∀ (o : Obj) (H2 : Hp), L2.Inv X pins σ H2 s1 → H2 D = some (.frz o (.ext (DX X.prog X.w D xs))) → R (Itx X.prog X.w D o xs) H2 → wpAny (model X.prog X.w) X.A (pyIter (.ref D)) (PIE X pins σ tg R) X.xe s1 := fun o H2 I2 hd q => by
    obtain ⟨hs, hgd, hx, es, ep, hdt, hsz, ent⟩ := frz_at I2 hd
    refine iter_keys hs hgd hx hdt (pi_one I2 _ (turn_X s1.heap.objs.size hdt) ⟨_, Heap.get?_push_size s1.heap rfl, rfl, ?_⟩ q)
    show Data.fields #[Value.ref D, Value.int 0 0, Value.int (es.size : Nat) 0, Value.int (ep : Nat) 0] = Data.fields #[Value.ref D, Value.int (0 : Nat) 0, Value.int (xs.length : Nat) 0, Value.int (ep : Nat) 0]
    rw [hsz]; rfl
  rcases q with ⟨hd, q⟩ | ⟨o, hd, q⟩
  · obtain ⟨dx, ⟨o, go⟩, st⟩ := I1.hok D _ hd
    refine fin o _ (I1.write (x := D) (e := D) (o := .frz o (.ext (DX X.prog X.w D xs))) (t' := s1.toks) (by rw [hd]; trivial) (.inl rfl) (fun b u _ e => e) ⟨o, go⟩ ⟨go, dx, ⟨o, go⟩, st⟩) upd_same (q o)
  · exact fin o H1 I1 hd q⟩
end
end Pf

namespace Pf
open PySem PySem.Spec PyProof.Rows L2
/-! ### the layer's words for such dicts -/
abbrev Kv := NestedKey × PyData
def atP (kvs : List Kv) (k : NestedKey) : Option PyData := (kvs.find? fun p => decide (p.1 = k)).map (·.2)
def putP (kvs : List Kv) (k : NestedKey) (d : PyData) : List Kv := if (atP kvs k).isSome = true then kvs.map (fun p => if p.1 = k then (p.1, d) else p) else kvs ++ [(k, d)]
section
variable {K : PySem.W.Frag} {H : Hp} {xs : List Ent} {kvs : List Kv} {k : NestedKey}
theorem kv_len : ∀ {xs : List Ent} {kvs : List Kv}, KvOk K H xs kvs → xs.length = kvs.length
  | _, _, .nil => rfl
  | _, _, .cons _ _ _ d => congrArg Nat.succ (kv_len d)
theorem kv_keys : ∀ {xs : List Ent} {kvs : List Kv}, KvOk K H xs kvs → ∀ x ∈ xs, KeyIn K H x.2.1 x.1
  | _, _, .nil, x, h => absurd h List.not_mem_nil
  | _, _, .cons a _ _ d, x, h => by
    rcases List.mem_cons.mp h with z | z
    · rw [z]; exact a
    · exact kv_keys d x z
theorem kv_at : ∀ {xs : List Ent} {kvs : List Kv}, KvOk K H xs kvs → (atKey xs k = none ∧ atP kvs k = none) ∨ ∃ p d v, atKey xs k = some p ∧ atP kvs k = some d ∧ L2.RelV v p.2 ∧ Dv K H v d
  | _, _, .nil => .inl ⟨rfl, rfl⟩
  | _, _, .cons (k := k') (a := a) (u := u) (v := v) (d := d) ha hr hd r => by
    by_cases e : k' = k
    · refine .inr ⟨(a, u), d, v, ?_, ?_, hr, hd⟩
      · show Option.map _ (List.find? _ (_ :: _)) = _
        rw [List.find?_cons_of_pos (by exact decide_eq_true e)]; rfl
      · show Option.map _ (List.find? _ (_ :: _)) = _
        rw [List.find?_cons_of_pos (by exact decide_eq_true e)]; rfl
    · rcases kv_at r with ⟨h1, h2⟩ | ⟨p, d', v', h1, h2, h3, h4⟩
      · refine .inl ⟨?_, ?_⟩
        · show Option.map _ (List.find? _ (_ :: _)) = _
          rw [List.find?_cons_of_neg (by simpa using e)]; exact h1
        · show Option.map _ (List.find? _ (_ :: _)) = _
          rw [List.find?_cons_of_neg (by simpa using e)]; exact h2
      · refine .inr ⟨p, d', v', ?_, ?_, h3, h4⟩
        · show Option.map _ (List.find? _ (_ :: _)) = _
          rw [List.find?_cons_of_neg (by simpa using e)]; exact h1
        · show Option.map _ (List.find? _ (_ :: _)) = _
          rw [List.find?_cons_of_neg (by simpa using e)]; exact h2
theorem kv_some (h : KvOk K H xs kvs) : (atKey xs k).isSome = (atP kvs k).isSome := by
  rcases kv_at (k := k) h with ⟨h1, h2⟩ | ⟨p, d, v, h1, h2, _⟩ <;> rw [h1, h2] <;> rfl
theorem kv_repl {a : Addr} {v : V} {d : PyData} {u : Value} (hr : L2.RelV v u) (hd : Dv K H v d) : ∀ {xs : List Ent} {kvs : List Kv}, KvOk K H xs kvs → KvOk K H (xs.map (putAt k u)) (kvs.map fun p => if p.1 = k then (p.1, d) else p)
  | _, _, .nil => .nil
  | _, _, .cons (k := k') (a := a) (u := u') ha hr' hd' r => by
    rw [List.map_cons, List.map_cons]
    unfold putAt
    by_cases e : k' = k
    · rw [if_pos e, if_pos e]; exact .cons ha hr hd (kv_repl (a := a) hr hd r)
    · rw [if_neg e, if_neg e]; exact .cons ha hr' hd' (kv_repl (a := a) hr hd r)
theorem kv_app : ∀ {xs : List Ent} {kvs : List Kv} {ys : List Ent} {lvs : List Kv}, KvOk K H xs kvs → KvOk K H ys lvs → KvOk K H (xs ++ ys) (kvs ++ lvs)
  | _, _, _, _, .nil, s => s
  | _, _, _, _, .cons a b c d, s => .cons a b c (kv_app d s)
theorem kv_put {a : Addr} {v : V} {d : PyData} {u : Value} (h : KvOk K H xs kvs) (ha : KeyIn K H a k) (hr : L2.RelV v u) (hd : Dv K H v d) : KvOk K H (storedH xs k a u) (putP kvs k d) := by
  unfold storedH putP
  rw [kv_some h]
  split
  · exact kv_repl (a := a) hr hd h
  · exact kv_app h (.cons ha hr hd .nil)
end
section
variable {P : Program} {w : World} {K : PySem.W.Frag} {X : WX} {env env1 : List SV} {ta tb te tk : TE} {t u : TS} {tt : TT} {d e : PyData} {i : Nat} {oc : Oc} {H H1 : Hp} {σ : L2.St} {kvs : List Kv} {k : NestedKey}
/-- slot i holds such a dict -/
def IsDc (P : Program) (w : World) (env : List SV) (i : Nat) (kvs : List Kv) : Prop := env[i]? = some (.dct P w kvs) ∨ env[i]? = some (.dcf P w kvs)
theorem Stt.dc (st : Stt K H H1 σ env) (h : IsDc P w env i kvs) : ∃ l xs, σ[i]? = some (some (.ref l)) ∧ DAt P w H1 l xs ∧ KvOk K H xs kvs := by
  rcases h with h | h
  · obtain ⟨o, a, l, xs, rfl, _, b, c⟩ := st.get h
    exact ⟨l, xs, a, .inl b, c⟩
  · obtain ⟨o, a, l, o', xs, rfl, b, c⟩ := st.get h
    exact ⟨l, xs, a, .inr ⟨o', st.e _ _ b⟩, c⟩
theorem dp_ref {H : Hp} {k : NestedKey} {v : V} (h : Dp K H v (.tuple d')) : ∃ a, v = .ref a := by
  cases h; exact ⟨_, rfl⟩
/-- a key: a tuple -/
def IsKey (k : NestedKey) : Prop := k.depth ≤ 8 ∧ ∃ ds, k.data = .tuple ds
theorem key_in {v : V} (hk : IsKey k) (h : Dp K H v k.data) : ∃ a, v = .ref a ∧ KeyIn K H a k := by
  obtain ⟨h1, ds, h2⟩ := hk
  have h' := h
  rw [h2] at h'
  obtain ⟨a, rfl⟩ := dp_ref (k := k) h'
  exact ⟨a, rfl, h, h1⟩
theorem DAt.mono {H H' : Hp} {l : Addr} {xs : List Ent} (e : Same H H') (h : DAt P w H l xs) : DAt P w H' l xs := by
  rcases h with h | ⟨o, h⟩
  · exact .inl (e _ _ h)
  · exact .inr ⟨o, e _ _ h⟩
theorem ev_inX {neg : Bool} (hk : IsKey k) (ha : Ev K ta env k.data) (h : IsDc P w env i kvs) : Ev K (tOp (rInX P w K neg) ta (tVar i)) env (.bool (if neg then !(atP kvs k).isSome else (atP kvs k).isSome)) := fun σ H H1 st Q q =>
  ha σ H H1 st _ fun v G H2 f dv => by
    obtain ⟨a, rfl, ki⟩ := key_in hk dv
    obtain ⟨l, xs, e1, e2, e3⟩ := (st.mono f).dc h
    refine ⟨_, e1, a, l, xs, k, rfl, rfl, e2, ki.mono f.r, fun x hx => (kv_keys e3 x hx).mono f.r, ?_⟩
    rw [kv_some e3]
    exact q _ G H2 f (.bl _)
theorem ev_ixX (hk : IsKey k) (h : IsDc P w env i kvs) (ha : Ev K ta env k.data) (hd : atP kvs k = some d) : Ev K (tOp (rIxX P w K) (tVar i) ta) env d := fun σ H H1 st Q q => by
  obtain ⟨l, xs, e1, e2, e3⟩ := st.dc h
  refine ⟨_, e1, ha σ H H1 st _ fun v G H2 f dv => ?_⟩
  obtain ⟨a, rfl, ki⟩ := key_in hk dv
  have e3' := e3.mono f.g
  rcases kv_at (k := k) e3' with ⟨_, h2⟩ | ⟨p, d', v', h1, h2, h3, h4⟩
  · rw [hd] at h2; cases h2
  · rw [hd] at h2; cases h2
    exact ⟨a, l, xs, k, p, v', rfl, rfl, e2.mono f.a, ki.mono f.r, fun x hx => (kv_keys e3' x hx).mono f.r, h1, h3, q v' G H2 f h4.1⟩
theorem ev_lenX (h : IsDc P w env i kvs) (hz : kvs.length ≤ 100000) : Ev K (tCB (rLenX P w K) (tCons (tVar i) tNil)) env (.int kvs.length) := fun σ H H1 st Q q => by
  obtain ⟨l, xs, e1, e2, e3⟩ := st.dc h
  refine ⟨_, e1, l, xs, rfl, e2, fun x hx => (kv_keys e3 x hx).mono st.e, by rw [kv_len e3]; exact hz, ?_⟩
  rw [kv_len e3]
  exact q _ H H1 (Fr.refl st.e) (.int _)
theorem sx_putX (hk : IsKey k) (h : env[i]? = some (.dct P w kvs)) (hl : ∀ ds, d ≠ .list ds) (he : Ev K te env d) (ha : Ev K tk env k.data) (hz : kvs.length < 100000) : Sx K X (tAsg te (gSub (tVar i) tk (rSetX P w K))) env (.nx (env.set i (.dct P w (putP kvs k d)))) := fun σ H H1 st D q =>
  he σ H H1 st _ fun v G H2 f dv => by
    have st2 := st.mono f
    obtain ⟨o, e1, l, xs, rfl, _⟩ := st2.get h
    refine ⟨_, e1, ha σ G H2 st2 _ fun kv G3 H3 f3 dk => ?_⟩
    obtain ⟨a, rfl, ki⟩ := key_in hk dk
    have st3 := st2.mono f3
    obtain ⟨o, e1', l', xs', rfl, b1, b2, b3⟩ := st3.get h
    rw [e1] at e1'; cases e1'
    refine ⟨a, l, xs', k, rfl, rfl, b2, ki.mono f3.r, fun x hx => (kv_keys b3 x hx).mono f3.r, by rw [kv_len b3]; exact hz, fun u ru => ?_⟩
    obtain ⟨w1, w2, w3⟩ := st3.write (o := .ext (DX P w l (storedH xs' k a u))) (s' := .dct P w (putP kvs k d)) h rfl e1 ⟨l, _, rfl, b1, upd_same, kv_put b3 ki ru ⟨dm f3.g dv, fun ds z => absurd z (hl ds)⟩⟩ rfl
    exact q σ _ _ (((f.tr0 f3).mono fun _ z => z.elim).trans w2 fun p z => .inl z) w1 fun p z => .inl (w3 p z)
theorem sx_newX : Sx K X (tAsg (tNewX P w) (gName i)) env (.nx (env.set i (.dct P w []))) := fun σ H H1 st D q => fun p hp => by
  have f : Fr0 H H1 H (upd H1 p (.ext (DX P w p []))) := Fr.hid st.e hp
  refine q _ H _ (f.mono fun _ z => z.elim) ((st.mono f).setO ⟨p, [], rfl, st.e.free hp, upd_same, .nil⟩ fun j s a b _ z => (st.owned ⟨j, s, a, b, z⟩).2 hp) fun l z => ?_
  rcases Ow.set z with z | ⟨_, z⟩
  · exact .inl z
  · cases z; exact .inr hp
theorem sx_dispX (hk : IsKey k) (hl : ∀ ds, d ≠ .list ds) (ha : Ev K tk env k.data) (he : Ev K te env d) : Sx K X (tAsg (tDispX P w K tk te) (gName i)) env (.nx (env.set i (.dct P w [(k, d)]))) := fun σ H H1 st D q => fun p hp => by
  have f0 : Fr0 H H1 H (upd H1 p (.ext (DX P w p []))) := Fr.hid st.e hp
  refine ha σ H _ (st.mono f0) _ fun kv G H2 f1 dk => he σ G H2 ((st.mono f0).mono f1) _ fun v G2 H3 f2 dv => ?_
  obtain ⟨a, rfl, ki⟩ := key_in hk dk
  have hg : G2 p = none := by
    have g1 : G p = none := f1.n p (fun z => z) (st.e.free hp) (by rw [upd_same]; exact fun z => nomatch z)
    exact f2.n p (fun z => z) g1 (by rw [f1.a _ _ upd_same]; exact fun z => nomatch z)
  refine ⟨f2.a _ _ (f1.a _ _ upd_same), a, k, v, rfl, (ki.mono f2.g).mono f2.r, fun u ru => ?_⟩
  have ff := (f0.tr0 f1).tr0 f2
  have e2 : Same G2 (upd H3 p (.ext (DX P w p [(k, a, u)]))) := fun b x z => by
    rw [upd_ne (ne_of_none z hg)]; exact ff.r b x z
  have f3 : Fr0 H H1 G2 (upd H3 p (.ext (DX P w p [(k, a, u)]))) := ⟨ff.g, e2, fun b x nw z => by
    have n : b ≠ p := fun y => by rw [y, hp] at z; cases z
    rw [upd_ne n]; exact ff.s b x nw z, ff.n, fun b z => ff.m b (upd_none z)⟩
  refine q _ G2 _ (f3.mono fun _ z => z.elim) ((st.mono f3).setO ⟨p, [(k, a, u)], rfl, hg, upd_same, .cons (ki.mono f2.g) ru ⟨dv, fun ds z => absurd z (hl ds)⟩ .nil⟩ fun j s b1 b2 _ z => (st.owned ⟨j, s, b1, b2, z⟩).2 hp) fun l z => ?_
  rcases Ow.set z with z | ⟨_, z⟩
  · exact .inl z
  · cases z; exact .inr hp
/-- a dict of one's own is from now on held as it is -/
theorem Stt.freezeX (st : Stt K H H1 σ env) (h : env[i]? = some (.dct P w kvs)) : ∃ l xs, σ[i]? = some (some (.ref l)) ∧ H1 l = some (.ext (DX P w l xs)) ∧ KvOk K H xs kvs ∧ ∀ o, Stt K (upd H l (.frz o (.ext (DX P w l xs)))) (upd H1 l (.frz o (.ext (DX P w l xs)))) σ (env.set i (.dcf P w kvs)) ∧ Fr (Ow σ env) H H1 (upd H l (.frz o (.ext (DX P w l xs)))) (upd H1 l (.frz o (.ext (DX P w l xs)))) ∧ ∀ p, Ow σ (env.set i (.dcf P w kvs)) p → Ow σ env p := by
  have hi : i < env.length := (List.getElem?_eq_some_iff.mp h).1
  obtain ⟨o0, a, l, xs, rfl, b, c, kv⟩ := st.get h
  refine ⟨l, xs, a, c, kv, fun o => ?_⟩
  have hw : Ow σ env l := ⟨i, _, h, rfl, a⟩
  have f : Fr (fun p => p = l) H H1 (upd H l (.frz o (.ext (DX P w l xs)))) (upd H1 l (.frz o (.ext (DX P w l xs)))) := by
    refine ⟨newS b, fun p x z => ?_, fun p x nw z => ?_, fun p nw z _ => ?_, fun p z => upd_none z⟩
    · by_cases e : p = l
      · subst e; rw [upd_same] at z ⊢; exact z
      · rw [upd_ne e] at z ⊢; exact st.e p x z
    · rw [upd_ne (show p ≠ l from nw)]; exact z
    · rw [upd_ne (show p ≠ l from nw)]; exact z
  have st0 : Stt K H H1 σ (env.set i .no) := st.re h (fun _ _ _ => trivial) fun z => nomatch z
  have st1 := st0.monoW f fun p z e => by
    obtain ⟨j, s, e1, e2, e3⟩ := z
    by_cases c1 : i = j
    · subst c1; rw [List.getElem?_set_self hi] at e1; cases e1; cases e2
    · rw [List.getElem?_set_ne c1] at e1
      subst e
      exact st.ne i j _ _ _ c1 h e1 rfl e2 a e3
  have st2 := st1.re (i := i) (s := .no) (s' := .dcf P w kvs) (List.getElem?_set_self hi) (fun o' e _ => by
    rw [a] at e; cases e
    exact ⟨l, o, xs, rfl, upd_same, kv.mono (newS b)⟩) fun z => nomatch z
  rw [List.set_set] at st2
  refine ⟨st2, f.mono fun p z => by rw [z]; exact hw, fun p z => ?_⟩
  exact Ow.re (s' := .dcf P w kvs) h (fun z => by cases z) z
/-- for k in d, a turn may end the whole -/
theorem sx_forXE {g : TG} (h : IsDc P w env i kvs) (Inv : Nat → List SV) (h0 : Inv 0 = env.set i (.dcf P w kvs)) (o : Nat → Bool) (ex : Oc) (hx : ex.isNx = false) (hb : ∀ e, ex ≠ .bk e) (hc : ∀ e, ex ≠ .ct e)
    (go : ∀ (n : Nat) (k : NestedKey), (kvs.map (·.1))[n]? = some k → (∀ j, j < n → o j = false) → ∃ env', Tg K g (Inv n) k.data env' ∧ ((o n = false → Go K X t env' (Inv (n + 1))) ∧ (o n = true → oc = ex ∧ Sx K X t env' ex)))
    (rest : (∀ j, j < kvs.length → o j = false) → Sx K X u (Inv kvs.length) oc) : Sx K X (tSeq (tFor (iX P w (tVar i)) g t) u) env oc := fun σ H H1 st D q => by
  have main : ∀ (l : Addr) (ob : Obj) (xs : List Ent) (G0 H2 : Hp), G0 l = some (.frz ob (.ext (DX P w l xs))) → KvOk K G0 xs kvs → Stt K G0 H2 σ (env.set i (.dcf P w kvs)) → Fr (Ow σ env) H H1 G0 H2 → (∀ p, Ow σ (env.set i (.dcf P w kvs)) p → Ow σ env p) →
      ∃ W : Nat → Nat → L2.St → Hp → Prop, (∃ m, W 0 m σ H2) ∧ ∀ (n m : Nat) (σ' : L2.St) (H' : Hp), W n m σ' H' → ((Itx P w l ob xs).stop n H' ∧ u D σ' H') ∨ ((Itx P w l ob xs).go n H' ∧ ∃ N : L2.St → Hp → Prop, (∀ σ2 Hx, N σ2 Hx → ∃ m', m' < m ∧ W (n + 1) m' σ2 Hx) ∧ ∀ x Hx, (Itx P w l ob xs).yld n H' x Hx → g x σ' Hx fun σ2 Hy => t { nx := N, rt := D.rt, bk := u D, ct := N } σ2 Hy) := by
    intro l ob xs G0 H2 hf kv st0 f' ow0
    have hlen := kv_len kv
    refine ⟨fun n m σ' H' => m = kvs.length - n ∧ n ≤ kvs.length ∧ Pt K (Ow σ env) G0 H2 Inv n σ' H' ∧ ∀ j, j < n → o j = false, ⟨kvs.length, rfl, Nat.zero_le _, ⟨G0, Fr.refl f'.r, by rw [h0]; exact st0, fun p z => .inl (by rw [h0] at z; exact ow0 p z)⟩, fun j hj => absurd hj (Nat.not_lt_zero j)⟩, ?_⟩
    rintro n m σ' H' ⟨rfl, hn, ⟨G, fr, st2, ow⟩, hj⟩
    have hd : H' l = some (.frz ob (.ext (DX P w l xs))) := fr.r _ _ (fr.g _ _ hf)
    have kv2 := kv.mono fr.g
    by_cases hlt : n < kvs.length
    · have hlt' : n < xs.length := by rw [hlen]; exact hlt
      refine .inr ⟨⟨hd, hlt'⟩, fun σ' H' => Pt K (Ow σ env) G0 H2 Inv (n + 1) σ' H' ∧ ∀ j, j < n + 1 → o j = false, fun σ2 Hx p => ⟨kvs.length - (n + 1), by omega, rfl, hlt, p⟩, fun x Hx y => ?_⟩
      obtain ⟨rfl, e, he, rfl⟩ := y
      have at' : ∀ {xs : List Ent} {kvs : List Kv} (n : Nat) {e : Ent}, KvOk K G xs kvs → xs[n]? = some e → (kvs.map (·.1))[n]? = some e.1 ∧ KeyIn K G e.2.1 e.1 := by
        intro xs kvs n e hk
        induction hk generalizing n with
        | nil => intro z; simp at z
        | cons ha _ _ _ ih =>
          intro z
          cases n with
          | zero => simp at z; subst z; exact ⟨rfl, ha⟩
          | succ n => simp at z; exact ih n z
      obtain ⟨ek, ki⟩ := at' n kv2 he
      obtain ⟨env', tg, g1, g2⟩ := go n e.1 ek hj
      refine tg σ' G Hx (.ref e.2.1) st2 ki.1 _ fun σ2 st3 o3 => ?_
      have ow3 : ∀ l, Ow σ2 env' l → Ow σ env l ∨ H2 l = none := fun l z => ow l (o3 l z)
      cases hoi : o n with
      | false =>
        have nx : ∀ σ3 G3 Hy, Fr (Ow σ2 env') G Hx G3 Hy → Stt K G3 Hy σ3 (Inv (n + 1)) → (∀ l, Ow σ3 (Inv (n + 1)) l → Ow σ2 env' l ∨ Hx l = none) → Pt K (Ow σ env) G0 H2 Inv (n + 1) σ3 Hy ∧ ∀ j, j < n + 1 → o j = false := fun σ3 G3 Hy f3 st4 o4 =>
          ⟨⟨G3, fr.trans f3 ow3, st4, fun l z => (o4 l z).elim (ow3 l) fun z => .inr (fr.m l z)⟩, fun j hj' => by
            rcases Nat.lt_succ_iff_lt_or_eq.mp hj' with z | z
            · exact hj j z
            · rw [z]; exact hoi⟩
        rcases g1 hoi with w | w
        · exact w σ2 G Hx st3 _ nx
        · exact w σ2 G Hx st3 _ nx
      | true =>
        obtain ⟨eo, w⟩ := g2 hoi
        refine w σ2 G Hx st3 _ ?_
        have q' : OcOk K X (Ow σ2 env') D G Hx ex := by
          rw [eo] at q
          refine (q.tr f' fun l z => .inl z).tr fr ow3
        cases ex with
        | nx e => cases hx
        | bk e => exact absurd rfl (hb e)
        | ct e => exact absurd rfl (hc e)
        | ex c e => exact q'
        | rt d => exact q'
        | rl x => exact q'
        | rr v => exact q'
        | rw vs e => exact q'
        | rk xs => exact q'
        | rg k xs rs => exact q'
        | ry P w kvs => exact q'
        | rb => exact q'
    · have en : n = kvs.length := by omega
      subst en
      refine .inl ⟨⟨hd, by omega⟩, ?_⟩
      exact rest hj σ' G H' st2 D ((q.tr f' fun l z => .inl z).tr fr ow)
  rcases h with h | h
  · obtain ⟨l, xs, a, c, kv, mk⟩ := st.freezeX h
    refine ⟨_, a, l, xs, rfl, .inl ⟨c, fun ob => ?_⟩⟩
    obtain ⟨st0, f', ow0⟩ := mk ob
    exact main l ob xs _ _ upd_same (kv.mono f'.g) st0 f' ow0
  · obtain ⟨o0, a, l, ob, xs, rfl, b, kv⟩ := st.get h
    have e : env.set i (.dcf P w kvs) = env := by
      refine List.ext_getElem? fun j => ?_
      by_cases c : i = j
      · subst c; rw [List.getElem?_set_self (List.getElem?_eq_some_iff.mp h).1, h]
      · rw [List.getElem?_set_ne c]
    refine ⟨_, a, l, xs, rfl, .inr ⟨ob, st.e _ _ b, ?_⟩⟩
    exact main l ob xs H H1 b kv (by rw [e]; exact st) (Fr.refl st.e) fun p z => by rw [e] at z; exact z
end
end Pf

namespace Pf
open PySem PySem.Spec PyProof.Rows L2
section
variable {K : PySem.W.Frag} {X : WX} {te : TE} {env : List SV} {xs : List PyData} {oc : Oc} {t : TS} {tt : TT}
/-- within an expression that gives a new list of whole numbers, one's own list may be read as data -/
theorem eo_fixI {ns : List Int} (i : Nat) (h : env[i]? = some (.own xs)) (k : EvO K te (env.set i (.dat (.list xs))) (ns.map .int)) : EvO K te env (ns.map .int) := fun σ H H1 st Q q => by
  obtain ⟨l, vs, a, b, c, st'⟩ := st.freeze h
  refine k σ _ H1 st' Q fun p ws G H2 f hp hg h2 dv => ?_
  refine q p ws H H2 ⟨Same.refl _, (newS b).trans (f.g.trans f.r), f.s, fun _ _ z _ => z, f.m⟩ hp (st.e.free hp) h2 ?_
  rw [dpa_ints dv]; exact dpa_of_ints _
/-- [e for target in a tuple of data if ..] -/
theorem eo_lcT {tl : TE} {α : Type} (xs : List α) (en : α → PyData) (f : α → Bool) (w : α → PyData) {g : TG} {vs : List Nat} (h : Ev K tl env (.tuple (xs.map en))) (hz : xs.length < 100000) (turn : ∀ x ∈ xs, ∃ env', Tgw K vs g (wipeE env vs) (en x) env' ∧ EvT K tt env' (f x) ∧ (f x = true → Ev K te env' (w x))) :
    EvO K (tLc (iTup K tl) g tt te vs) env ((xs.filter f).map w) := fun σ H H1 st Q q => by
  refine h σ H H1 st _ fun v G0 H2 f0 dv => ?_
  cases dv with
  | @tup a as _ hl hd =>
    refine ⟨a, rfl, ⟨as, sqt f0.r hl⟩, fun D hD => ?_⟩
    have st0 := st.mono f0
    have nD : ∀ l, Ow (L2.wipe σ vs) (wipeE env vs) l → ¬ l = D := fun l z e => by
      have := (st0.owned (Ow.wipe z)).2
      exact this (by rw [e]; exact hD)
    have hlen : as.length = xs.length := by rw [dpa_len hd, List.length_map]
    refine lc_tup (K := K) (a := a) (xs := as) (fun i H' => Mk K G0 H2 D (((xs.take i).filter f).map w) H') (mk_start f0.r hD) (fun i H' _ p => ?_) (fun i x H' hi p => ?_) (fun H' p => ?_)
    · obtain ⟨G, ac, f1, _⟩ := p
      exact sqt f1.r (sqt f1.g hl)
    · obtain ⟨G, ac, f1, hG, ha, da⟩ := p
      obtain ⟨d, e1, e2⟩ := dpa_get hd hi
      rw [List.getElem?_map] at e1
      cases ex : xs[i]? with
      | none => rw [ex] at e1; cases e1
      | some x' =>
        rw [ex] at e1
        obtain rfl : en x' = d := Option.some.inj e1
        obtain ⟨env', tg, ht, he⟩ := turn x' (List.mem_of_getElem? ex)
        refine tg _ G H' x ((st0.wipe vs).monoW f1 nD) (dm f1.g e2) _ fun σ' st' o hw => ⟨?_, ?_⟩
        · rw [hw]; exact wipe_wipe fun _ z => z
        · rw [filter_next ex]
          exact mk_turn f1 hG ha da (take_short hz) st' ht he
    · obtain ⟨G, ac, f1, hG, ha, da⟩ := p
      have ff : Fr0 H H1 G H' := f0.trans f1 fun p z => .inr (by rw [z]; exact f0.a.free hD)
      rw [hlen, List.take_length] at da
      exact q D ac G H' ff (f0.a.free hD) hG ha da
/-- while: n turns -/
theorem sx_while {n : Nat} (Inv : Nat → List SV) (h0 : Inv 0 = env) (go : ∀ i, i < n → EvT K tt (Inv i) true ∧ Go K X t (Inv i) (Inv (i + 1))) (he : EvT K tt (Inv n) false) : Sx K X (tWhile tt t) env (.nx (Inv n)) := fun σ H H1 st D q => by
  refine ⟨fun m σ' H' => ∃ i, i ≤ n ∧ m = n - i ∧ Pt K (Ow σ env) H H1 Inv i σ' H', ⟨n, 0, Nat.zero_le _, rfl, ⟨H, Fr.refl st.e, by rw [h0]; exact st, fun l z => .inl (by rw [h0] at z; exact z)⟩⟩, fun m σ' H' p => ?_⟩
  obtain ⟨i, hi, rfl, G, f2, st2, ow⟩ := p
  by_cases c : i < n
  · obtain ⟨g0, g1⟩ := go i c
    refine g0 σ' G H' st2 _ fun G3 H3 f3 => ?_
    rw [if_pos rfl]
    refine ⟨fun σ'' H'' => Pt K (Ow σ env) H H1 Inv (i + 1) σ'' H'', fun σ'' H'' p => ⟨n - (i + 1), by omega, i + 1, c, rfl, p⟩, ?_⟩
    have st3 := st2.mono f3
    have f23 := f2.tr0 f3
    have nx : ∀ σ3 G4 H4, Fr (Ow σ' (Inv i)) G3 H3 G4 H4 → Stt K G4 H4 σ3 (Inv (i + 1)) → (∀ l, Ow σ3 (Inv (i + 1)) l → Ow σ' (Inv i) l ∨ H3 l = none) → Pt K (Ow σ env) H H1 Inv (i + 1) σ3 H4 := fun σ3 G4 H4 f4 st4 o4 =>
      ⟨G4, f23.trans f4 ow, st4, fun l z => (o4 l z).elim (ow l) fun z => .inr (f23.m l z)⟩
    rcases g1 with w | w
    · exact w σ' G3 H3 st3 _ nx
    · exact w σ' G3 H3 st3 _ nx
  · obtain rfl : i = n := by omega
    refine he σ' G H' st2 _ fun G3 H3 f3 => ?_
    rw [if_neg (by decide)]
    exact q σ' G3 H3 (f2.tr0 f3) (st2.mono f3) ow
end
end Pf

/-! texts -/
namespace Pf
open PySem PySem.Spec PyProof.Rows L2
section
variable {K : PySem.W.Frag} {X : WX} {env : List SV} {ta tb te : TE} {xs ys : List PyData} {d : PyData} {aa : TA}
theorem EvL.is (h : EvL K te env xs) (q : xs = ys) : EvL K te env ys := q ▸ h
/-- the parts of a text with braces -/
inductive EvJ (K : PySem.W.Frag) (env : List SV) : List TE → List Str → Prop where
  | nil : EvJ K env [] []
  | cons {te : TE} {y : Str} {ts : List TE} {zs : List Str} : Ev K te env (.str y) → EvJ K env ts zs → EvJ K env (te :: ts) (y :: zs)
def catS (acc : Str) (ys : List Str) : Str := ys.foldl (· ++ ·) acc
theorem len_app (a b : Str) : (a ++ b).length = a.length + b.length := by
  show (a.cps ++ b.cps).size = _
  rw [Array.size_append]; rfl
theorem catS_len : ∀ (ys : List Str) (acc : Str), acc.length ≤ (catS acc ys).length
  | [], acc => Nat.le_refl _
  | y :: r, acc => Nat.le_trans (by rw [len_app]; omega) (catS_len r (acc ++ y))
theorem tjs_ev : ∀ {ts : List TE} {ys : List Str}, EvJ K env ts ys → ∀ (acc : Str), (catS acc ys).length ≤ 100000 → ∀ σ H H1, Stt K H H1 σ env → ∀ Q : Str → Hp → Prop, (∀ G H2, Fr0 H H1 G H2 → Q (catS acc ys) H2) → tJs ts acc σ H1 Q
  | _, _, .nil, acc, _, σ, H, H1, st, Q, q => q H H1 (Fr.refl st.e)
  | _, _, .cons (y := y) (zs := zs) h t, acc, hz, σ, H, H1, st, Q, q => h σ H H1 st _ fun v G H2 f dv => by
    cases dv
    refine ⟨y, rfl, sz_ok (Nat.le_trans (catS_len zs (acc ++ y)) hz), tjs_ev t (acc ++ y) hz σ G H2 (st.mono f) Q fun G3 H3 f3 => q G3 H3 (f.tr0 f3)⟩
theorem ev_js {ts : List TE} {ys : List Str} (h : EvJ K env ts ys) (hz : (catS Str.empty ys).length ≤ 100000) : Ev K (fun σ H Q => tJs ts Str.empty σ H fun out H1 => Q (.str out) H1) env (.str (catS Str.empty ys)) := fun σ H H1 st Q q =>
  tjs_ev h Str.empty hz σ H H1 st _ fun G H2 f => q _ G H2 f (.str _)
def intS (n : Int) : Str := Str.ofString (toString n)
/-- text + text -/
theorem ev_addS {a b : Str} (ha : Ev K ta env (.str a)) (hb : Ev K tb env (.str b)) (hz : a.length + b.length ≤ 100000) : Ev K (tOp (fun x y H Q => ∃ i j, x = .str i ∧ y = .str j ∧ i.length + j.length ≤ sizeLine ∧ Q (.str (i ++ j)) H) ta tb) env (.str (a ++ b)) :=
  ev_op ha hb fun x y H H1 Q e dx dy q => by
    cases dx; cases dy
    exact ⟨a, b, rfl, rfl, sz_ok hz, q _ H H1 (Fr.refl e) (.str _)⟩
/-- str(n) -/
theorem ev_strI {n : Int} (h : Ev K te env (.int n)) (hn : n.natAbs.log2 < 1920) : Ev K (tCB (fun xs H Q => ∃ i, xs = [.int i] ∧ i.natAbs.log2 < 1920 ∧ Q (.str (toString i)) H) (tCons te tNil)) env (.str (intS n)) :=
  ev_cb (ea_cons h ea_nil) fun vs H H1 Q e dv q => by
    cases dv with
    | cons a b =>
      cases a; cases b
      exact ⟨n, rfl, hn, q _ H H1 (Fr.refl e) (.str _)⟩
def rJoin (K : PySem.W.Frag) : V → List V → Hp → VK → Prop := fun x xs H Q => ∃ a p, ∃ ys : List Str, x = .str a ∧ xs = [.ref p] ∧ (SqL K H p (ys.map V.str) ∨ SqT K H p (ys.map V.str)) ∧ (ys.map (·.length)).sum + ys.length * a.length ≤ 16777216 ∧ Q (.str (Txt.join a ys)) H
theorem mt_joinK {X : Cx} : MtR X "str.join" (rJoin X.K) := mt_join
theorem dpa_strs : ∀ {ns : List Str} {H : Hp} {vs : List V}, DpAll K H vs (ns.map PyData.str) → vs = ns.map V.str
  | [], _, _, h => by cases h; rfl
  | n :: r, _, _, h => by
    cases h with
    | cons a b => cases a; rw [dpa_strs b]; rfl
/-- sep.join(list of texts) -/
theorem ev_join {s : Str} {ns : List Str} (ha : Ev K ta env (.str s)) (hb : EvL K tb env (ns.map .str)) (hz : (ns.map (·.length)).sum + ns.length * s.length ≤ 16777216) : Ev K (tM1 (rJoin K) ta tb) env (.str (Txt.join s ns)) := fun σ H H1 st Q q =>
  ha σ H H1 st _ fun v G H2 f dv => by
    cases dv
    refine ⟨⟨s, rfl⟩, hb σ G H2 (st.mono f) _ fun p vs G3 H3 f3 h3 d3 => ?_⟩
    rw [dpa_strs d3] at h3
    exact ⟨s, p, ns, rfl, rfl, .inl (.inl (.inl h3)), hz, q _ G3 H3 (f.tr0 f3) (.str _)⟩
/-- xs.extend(list) -/
theorem sx_ext {i : Nat} (h : env[i]? = some (.own xs)) (he : EvO K te env ys) (hz : xs.length + ys.length ≤ 100000) : Sx K X (tDrop (tBM K "list" rExtend (tVar i) (tCons te tNil))) env (.nx (env.set i (.own (xs ++ ys)))) := fun σ H H1 st D q => by
  obtain ⟨l, vs, a, b, c, dv⟩ := st.own h
  refine ⟨_, a, .inl ⟨rfl, _, .inl (.inl c)⟩, he σ H H1 st _ fun p ws G H2 f hp hg h2 dw => ?_⟩
  have st2 := st.mono f
  obtain ⟨l', vs', a', b', c', dv'⟩ := st2.own h
  rw [a] at a'; cases a'
  refine ⟨l, p, vs', ws, rfl, rfl, c', h2, sz_ok (by rw [dpa_len dv', dpa_len dw]; exact hz), ?_⟩
  obtain ⟨w1, w2, w3⟩ := st2.write (o := .lst (vs' ++ ws)) (s' := .own (xs ++ ys)) h rfl a ⟨l, vs' ++ ws, rfl, b', upd_same, dpa_app dv' dw⟩ rfl
  exact q σ _ _ ((f.mono fun _ z => z.elim).trans w2 fun p z => .inl z) w1 fun p z => .inl (w3 p z)
theorem join_snoc (s : Str) : ∀ (ns : List Str) (y : Str), ns ≠ [] → Txt.join s (ns ++ [y]) = Txt.join s ns ++ s ++ y
  | [], _, h => absurd rfl h
  | a :: r, y, _ => by
    show Builtin.Str.glued s (a :: (r ++ [y])) = Builtin.Str.glued s (a :: r) ++ s ++ y
    unfold Builtin.Str.glued
    show (⟨(r ++ [y]).foldl _ _⟩ : Str) = ⟨(r.foldl _ _ ++ s.cps) ++ y.cps⟩
    rw [List.foldl_append]; rfl
theorem app_assoc (a b c : Str) : a ++ b ++ c = a ++ (b ++ c) := by
  show (⟨(a.cps ++ b.cps) ++ c.cps⟩ : Str) = ⟨a.cps ++ (b.cps ++ c.cps)⟩
  rw [Array.append_assoc]
theorem empty_app (a : Str) : Str.empty ++ a = a := by
  show (⟨#[] ++ a.cps⟩ : Str) = a
  rw [Array.empty_append]
theorem app_empty (a : Str) : a ++ Str.empty = a := by
  show (⟨a.cps ++ #[]⟩ : Str) = a
  rw [Array.append_empty]
end
end Pf

/-! sorted(a list of data) -/
namespace Pf
open PySem PySem.Spec PyProof.Rows L2
def rSortD (K : PySem.W.Frag) : List V → Hp → VK → Prop := fun vs H Q => ∃ (G : Hp) (a : Addr) (xs : List V) (ds : List PyData), vs = [V.ref a] ∧ Same G H ∧ SqL K H a xs ∧ DpAll K G xs ds ∧ PySem.W.AllAlike ds ∧ PySem.W.Sortable ds ∧ ds.length ≤ 100000 ∧ (∀ d ∈ ds, d.depth ≤ 8) ∧
  ∀ (ys : List V) (p : Addr), DpAll K G ys (ds.mergeSort (PySem.W.dataLe false id)) → H p = none → Q (.ref p) (upd H p (.lst ys))
theorem each_zip {K : PySem.W.Frag} {G : Hp} : ∀ {xs : List V} {us : List Value} {ds : List PyData}, Vals xs us → DpAll K G xs ds → PySem.W.EachIs (fun (v : Value) (b : V × PyData) => L2.RelV b.1 v ∧ Dp K G b.1 b.2) us (xs.zip ds)
  | _, _, _, .nil, .nil => .nil
  | _, _, _, .cons r t, .cons a b => .cons ⟨r, a⟩ (each_zip t b)
theorem zip_each {K : PySem.W.Frag} {G : Hp} : ∀ {us : List Value} {bs : List (V × PyData)}, PySem.W.EachIs (fun (v : Value) (b : V × PyData) => L2.RelV b.1 v ∧ Dp K G b.1 b.2) us bs → Vals (bs.map (·.1)) us ∧ DpAll K G (bs.map (·.1)) (bs.map (·.2))
  | _, _, .nil => ⟨.nil, .nil⟩
  | _, _, .cons h t => ⟨.cons h.1 (zip_each t).1, .cons h.2 (zip_each t).2⟩
theorem cr_sortedD {X : Cx} (hu : X.A.units + 65 < cLine) : CallR X (.builtin "sorted") (rSortD X.K) := by
  intro pins s σ H vs us Q I r hh
  obtain ⟨G, a, xs, ds, rfl, hG, hs, hd, al, so, hl, hp, q⟩ := hh
  obtain ⟨its, rv, hli, _⟩ := I.list hs
  rw [Vals.ref1 r]
  have hlen := dpa_len hd
  have e := each_zip rv hd
  have e2 : (xs.zip ds).map (·.2) = ds := List.map_snd_zip (by omega)
  have hz : (xs.zip ds).length = ds.length := by rw [List.length_zip]; omega
  have hzs : ds.length ≤ sizeLine := sz_ok hl
  refine PySem.W.sorted_data (enc := fun b : V × PyData => b.2) hli.isList e (e.mono fun v b z => Dp.reads I b.2 b.1 v (dm hG z.2) z.1) (by rw [e2]; exact al) (by rw [e2]; exact so) (by omega) (fun b hb => ?_) fun out ho eo => ?_
  · have := hp b.2 (by rw [← e2]; exact List.mem_map.mpr ⟨b, hb, rfl⟩)
    show X.A.units + 2 + b.2.depth < cLine
    omega
  · obtain ⟨w1, w2⟩ := zip_each eo
    have em : ((xs.zip ds).mergeSort (PySem.W.dataLe false fun b : V × PyData => b.2)).map (·.2) = ds.mergeSort (PySem.W.dataLe false id) :=
      (List.map_mergeSort (r := PySem.W.dataLe false fun b : V × PyData => b.2) (s := PySem.W.dataLe false id) (f := fun b : V × PyData => b.2) (l := xs.zip ds) fun _ _ _ _ => rfl).trans (by rw [e2])
    rw [em] at w2
    obtain ⟨ep, hep⟩ := PyProof.Rows.sortedAll_at s.heap its out.toArray
    have hlen2 : (((xs.zip ds).mergeSort (PySem.W.dataLe false fun b : V × PyData => b.2)).map (·.1)).length ≤ sizeLine := by
      rw [List.length_map, List.length_mergeSort, hz]; exact hzs
    exact ⟨.ref _, upd H (s.heap.objs.size + 1) (.lst _), I.laid (t' := s.toks) (fun _ _ => PyProof.Rows.sortedAll_old) (Nat.le_succ _) ⟨hlen2, out, ep, w1, hep⟩, rfl, q _ _ w2 (I.hok.fresh (Nat.le_succ _))⟩
section
variable {K : PySem.W.Frag} {X : WX} {env : List SV} {ta tb te : TE}
theorem eo_sortedD {α : Type} (en : α → PyData) {xs : List α} (ha : EvL K ta env (xs.map en)) (al : ∀ a b, PySem.W.alike (en a) (en b) = true) (so : (∀ a, ∃ x r, en a = .tuple (x :: r)) ∨ ∀ a, en a ≠ .none ∧ ∀ ys, en a ≠ .tuple ys) (hl : xs.length ≤ 100000) (hd : ∀ a, (en a).depth ≤ 8) :
    EvO K (tCB (rSortD K) (tCons ta tNil)) env ((xs.mergeSort (PySem.W.dataLe false en)).map en) := fun σ H H1 st Q q =>
  ha σ H H1 st _ fun p vs G H2 f h2 dv => by
    have em : (xs.mergeSort (PySem.W.dataLe false en)).map en = (xs.map en).mergeSort (PySem.W.dataLe false id) := List.map_mergeSort (r := PySem.W.dataLe false en) (s := PySem.W.dataLe false id) (f := en) fun _ _ _ _ => rfl
    refine ⟨G, p, vs, xs.map en, rfl, f.r, .inl (.inl h2), dv, PySem.W.AllAlike.of al, ?_, by rw [List.length_map]; exact hl, fun d h => ?_, fun ys p2 dy hp2 => ?_⟩
    · rcases so with so | so
      · exact PySem.W.Sortable.tuples so
      · exact PySem.W.Sortable.others so
    · obtain ⟨b, _, rfl⟩ := List.mem_map.mp h; exact hd b
    · rw [← em] at dy
      have hg : G p2 = none := f.r.free hp2
      refine q p2 ys G _ ⟨f.g, fun x o z => newS hp2 x o (f.r x o z), fun x o w z => newS hp2 x o (f.s x o w z), f.n, fun x z => f.m x (upd_none z)⟩ (f.m _ hp2) hg upd_same dy
end
end Pf

/-! dicts whose values are lists -/
namespace Pf
open PySem PySem.Spec PyProof.Rows L2
section
variable {P : Program} {w : World} {K : PySem.W.Frag} {X : WX} {env env1 : List SV} {ta tb te tk : TE} {t u : TS} {tt : TT} {d e : PyData} {i j : Nat} {oc : Oc} {H H1 : Hp} {σ : L2.St} {kvs : List Kv} {k : NestedKey} {xs ys : List PyData}
theorem EvKn.l (h : EvKn K te env xs) : EvL K te env xs := fun σ H H1 st Q q =>
  h σ H H1 st Q fun p vs G H2 f g dv => q p vs G H2 f (f.r _ _ g) dv
theorem EvKn.ev (h : EvKn K te env xs) : Ev K te env (.list xs) := fun σ H H1 st Q q =>
  h σ H H1 st Q fun p vs G H2 f g dv => q _ G H2 f (dp_list g dv)
theorem EvKn.is (h : EvKn K te env xs) (q : xs = ys) : EvKn K te env ys := q ▸ h
/-- d[k], a list -/
theorem ek_ixX (hk : IsKey k) (h : IsDc P w env i kvs) (ha : Ev K ta env k.data) (hd : atP kvs k = some (.list xs)) : EvKn K (tOp (rIxX P w K) (tVar i) ta) env xs := fun σ H H1 st Q q => by
  obtain ⟨l, es, e1, e2, e3⟩ := st.dc h
  refine ⟨_, e1, ha σ H H1 st _ fun v G H2 f dv => ?_⟩
  obtain ⟨a, rfl, ki⟩ := key_in hk dv
  have e3' := e3.mono f.g
  rcases kv_at (k := k) e3' with ⟨_, h2⟩ | ⟨p, d', v', h1, h2, h3, h4⟩
  · rw [hd] at h2; cases h2
  · rw [hd] at h2; cases h2
    obtain ⟨p', vs, rfl, g1, g2⟩ := h4.2 xs rfl
    exact ⟨a, l, es, k, p, .ref p', rfl, rfl, e2.mono f.a, ki.mono f.r, fun x hx => (kv_keys e3' x hx).mono f.r, h1, h3, q p' vs G H2 f g1 g2⟩
theorem kn_dv {G : Hp} {p : Addr} {vs : List V} (g : G p = some (.lst vs)) (dv : DpAll K G vs xs) : Dv K G (.ref p) (.list xs) := ⟨dp_list g dv, fun ds z => by cases z; exact ⟨p, vs, rfl, g, dv⟩⟩
/-- d[k] = a list -/
theorem sx_putXL (hk : IsKey k) (h : env[i]? = some (.dct P w kvs)) (he : EvKn K te env xs) (ha : Ev K tk env k.data) (hz : kvs.length < 100000) : Sx K X (tAsg te (gSub (tVar i) tk (rSetX P w K))) env (.nx (env.set i (.dct P w (putP kvs k (.list xs))))) := fun σ H H1 st D q =>
  he σ H H1 st _ fun p vs G H2 f g dv => by
    have st2 := st.mono f
    obtain ⟨o, e1, l, es, rfl, _⟩ := st2.get h
    refine ⟨_, e1, ha σ G H2 st2 _ fun kv G3 H3 f3 dk => ?_⟩
    obtain ⟨a, rfl, ki⟩ := key_in hk dk
    have st3 := st2.mono f3
    obtain ⟨o, e1', l', es', rfl, b1, b2, b3⟩ := st3.get h
    rw [e1] at e1'; cases e1'
    refine ⟨a, l, es', k, rfl, rfl, b2, ki.mono f3.r, fun x hx => (kv_keys b3 x hx).mono f3.r, by rw [kv_len b3]; exact hz, fun u ru => ?_⟩
    obtain ⟨w1, w2, w3⟩ := st3.write (o := .ext (DX P w l (storedH es' k a u))) (s' := .dct P w (putP kvs k (.list xs))) h rfl e1 ⟨l, _, rfl, b1, upd_same, kv_put b3 ki ru ((kn_dv g dv).mono f3.g)⟩ rfl
    exact q σ _ _ (((f.tr0 f3).mono fun _ z => z.elim).trans w2 fun p z => .inl z) w1 fun p z => .inl (w3 p z)
/-- {k: a list} -/
theorem sx_dispXL (hk : IsKey k) (ha : Ev K tk env k.data) (he : EvKn K te env xs) : Sx K X (tAsg (tDispX P w K tk te) (gName i)) env (.nx (env.set i (.dct P w [(k, .list xs)]))) := fun σ H H1 st D q => fun p hp => by
  have f0 : Fr0 H H1 H (upd H1 p (.ext (DX P w p []))) := Fr.hid st.e hp
  refine ha σ H _ (st.mono f0) _ fun kv G H2 f1 dk => he σ G H2 ((st.mono f0).mono f1) _ fun pl vs G2 H3 f2 g dv => ?_
  obtain ⟨a, rfl, ki⟩ := key_in hk dk
  have hg : G2 p = none := by
    have g1 : G p = none := f1.n p (fun z => z) (st.e.free hp) (by rw [upd_same]; exact fun z => nomatch z)
    exact f2.n p (fun z => z) g1 (by rw [f1.a _ _ upd_same]; exact fun z => nomatch z)
  refine ⟨f2.a _ _ (f1.a _ _ upd_same), a, k, .ref pl, rfl, (ki.mono f2.g).mono f2.r, fun u ru => ?_⟩
  have ff := (f0.tr0 f1).tr0 f2
  have e2 : Same G2 (upd H3 p (.ext (DX P w p [(k, a, u)]))) := fun b x z => by
    rw [upd_ne (ne_of_none z hg)]; exact ff.r b x z
  have f3 : Fr0 H H1 G2 (upd H3 p (.ext (DX P w p [(k, a, u)]))) := ⟨ff.g, e2, fun b x nw z => by
    have n : b ≠ p := fun y => by rw [y, hp] at z; cases z
    rw [upd_ne n]; exact ff.s b x nw z, ff.n, fun b z => ff.m b (upd_none z)⟩
  refine q _ G2 _ (f3.mono fun _ z => z.elim) ((st.mono f3).setO ⟨p, [(k, a, u)], rfl, hg, upd_same, .cons (ki.mono f2.g) ru (kn_dv g dv) .nil⟩ fun j s b1 b2 _ z => (st.owned ⟨j, s, b1, b2, z⟩).2 hp) fun l z => ?_
  rcases Ow.set z with z | ⟨_, z⟩
  · exact .inl z
  · cases z; exact .inr hp
/-- d.get(k, a list) -/
def tGetX (P : Program) (w : World) (K : PySem.W.Frag) (td tk tx : TE) : TE := fun σ H Q => td σ H fun x H1 => (∃ D xs, x = .ref D ∧ DAt P w H1 D xs ∧ ∀ e ∈ xs, KeyIn K H1 e.2.1 e.1) ∧ tk σ H1 fun y H2 => tx σ H2 fun z H3 => rGetX P w K x [y, z] H3 Q
theorem ek_getX (hk : IsKey k) (h : IsDc P w env i kvs) (ha : Ev K tk env k.data) (hx : EvKn K te env ys) (hd : (atP kvs k = none ∧ xs = ys) ∨ atP kvs k = some (.list xs)) : EvKn K (tGetX P w K (tVar i) tk te) env xs := fun σ H H1 st Q q => by
  obtain ⟨l, es, e1, e2, e3⟩ := st.dc h
  refine ⟨_, e1, ⟨l, es, rfl, e2, fun x hx => (kv_keys e3 x hx).mono st.e⟩, ha σ H H1 st _ fun v G H2 f dv => hx σ G H2 (st.mono f) _ fun pl vs G2 H3 f2 g dl => ?_⟩
  obtain ⟨a, rfl, ki⟩ := key_in hk dv
  have ff := f.tr0 f2
  have e3' := e3.mono ff.g
  rcases kv_at (k := k) e3' with ⟨h1, h2⟩ | ⟨p, d', v', h1, h2, h3, h4⟩
  · rcases hd with ⟨_, rfl⟩ | hd
    · exact ⟨a, l, es, k, .ref pl, .ref pl, rfl, rfl, e2.mono ff.a, (ki.mono f2.g).mono f2.r, fun x hx => (kv_keys e3' x hx).mono f2.r, fun p z => by (rw [h1] at z; cases z), fun _ => rfl, q pl vs G2 H3 ff g dl⟩
    · rw [hd] at h2; cases h2
  · rcases hd with ⟨hd, _⟩ | hd
    · rw [hd] at h2; cases h2
    · rw [hd] at h2; cases h2
      obtain ⟨p', vs', rfl, g1, g2⟩ := h4.2 xs rfl
      exact ⟨a, l, es, k, .ref pl, .ref p', rfl, rfl, e2.mono ff.a, (ki.mono f2.g).mono f2.r, fun x hx => (kv_keys e3' x hx).mono f2.r, fun p'' z => by (rw [h1] at z; cases z; exact h3), fun z => by (rw [h1] at z; cases z), q p' vs' G2 H3 ff g1 g2⟩
theorem lcX_core {l : Addr} {ob : Obj} {es : List Ent} {env : List SV} {te : TE} (st : Stt K H H1 σ env) (hl : H l = some (.frz ob (.ext (DX P w l es)))) (kv : KvOk K H es kvs) (f : NestedKey → Bool) (wd : NestedKey → PyData) {g : TG} {vs : List Nat} (hz : kvs.length < 100000)
    (turn : ∀ k ∈ kvs.map (·.1), ∃ env', Tgw K vs g (wipeE env vs) k.data env' ∧ EvT K tt env' (f k) ∧ (f k = true → Ev K te env' (wd k))) (Q : VK)
    (q : ∀ p vs G H2, Fr0 H H1 G H2 → H1 p = none → G p = none → H2 p = some (.lst vs) → DpAll K G vs (((kvs.map (·.1)).filter f).map wd) → Q (.ref p) H2) :
    ∀ D, H1 D = none → ∃ W : Nat → Nat → Hp → Prop, (∃ m, W 0 m (upd H1 D (.lst []))) ∧ ∀ i m H, W i m H →
      ((Itx P w l ob es).stop i H ∧ Q (.ref D) H) ∨ ((Itx P w l ob es).go i H ∧ ∃ Nx : Hp → Prop, (∀ H', Nx H' → ∃ m', m' < m ∧ W (i + 1) m' H') ∧ ∀ x H', (Itx P w l ob es).yld i H x H' → g x (L2.wipe σ vs) H' fun σ2 H2 => L2.wipe σ2 vs = L2.wipe σ vs ∧ tt σ2 H2 fun b H3 => if b = true then te σ2 H3 fun y H4 => ∃ acc, H4 D = some (.lst acc) ∧ acc.length < sizeLine ∧ Nx (upd H4 D (.lst (acc ++ [y]))) else Nx H3) := by
  intro D hD
  have hlen := kv_len kv
  have nD : ∀ l, Ow (L2.wipe σ vs) (wipeE env vs) l → ¬ l = D := fun l z e => (st.owned (Ow.wipe z)).2 (by rw [e]; exact hD)
  have hkl : (kvs.map (·.1)).length = kvs.length := List.length_map _
  refine ⟨fun n m H' => m = kvs.length - n ∧ n ≤ kvs.length ∧ Mk K H H1 D ((((kvs.map (·.1)).take n).filter f).map wd) H', ⟨kvs.length, rfl, Nat.zero_le _, mk_start st.e hD⟩, ?_⟩
  rintro n m H' ⟨rfl, hn, G, ac, f1, hG, hac, da⟩
  have hd : H' l = some (.frz ob (.ext (DX P w l es))) := f1.r _ _ (f1.g _ _ hl)
  by_cases hlt : n < kvs.length
  · refine .inr ⟨⟨hd, by rw [hlen]; exact hlt⟩, fun H' => Mk K H H1 D ((((kvs.map (·.1)).take (n + 1)).filter f).map wd) H', fun Hx p => ⟨kvs.length - (n + 1), by omega, rfl, hlt, p⟩, fun x Hx y => ?_⟩
    obtain ⟨rfl, e, he, rfl⟩ := y
    have at' : ∀ {es : List Ent} {kvs : List Kv} (n : Nat) {e : Ent}, KvOk K G es kvs → es[n]? = some e → (kvs.map (·.1))[n]? = some e.1 ∧ KeyIn K G e.2.1 e.1 := by
      intro es kvs n e hk
      induction hk generalizing n with
      | nil => intro z; simp at z
      | cons ha _ _ _ ih =>
        intro z
        cases n with
        | zero => simp at z; subst z; exact ⟨rfl, ha⟩
        | succ n => simp at z; exact ih n z
    obtain ⟨ek, ki⟩ := at' n (kv.mono f1.g) he
    obtain ⟨env', tg, ht, hx⟩ := turn e.1 (List.mem_of_getElem? ek)
    refine tg _ G Hx (.ref e.2.1) ((st.wipe vs).monoW f1 nD) ki.1 _ fun σ' st' o hw => ⟨?_, ?_⟩
    · rw [hw]; exact wipe_wipe fun _ z => z
    · rw [filter_next ek]
      exact mk_turn f1 hG hac da (take_short (by rw [hkl]; exact hz)) st' ht hx
  · obtain rfl : n = kvs.length := by omega
    refine .inl ⟨⟨hd, by rw [hlen]; exact Nat.le_refl _⟩, ?_⟩
    rw [← hkl, List.take_length] at da
    have ff : Fr0 H H1 G H' := (Fr.refl (W := fun _ => False) st.e).trans f1 fun p z => .inr (by rw [z]; exact hD)
    exact q D ac G H' ff hD hG hac da
/-- [e for k in d if ..], d held as it is -/
theorem eo_lcX (h : env[i]? = some (.dcf P w kvs)) (f : NestedKey → Bool) (wd : NestedKey → PyData) {g : TG} {vs : List Nat} (hz : kvs.length < 100000) (turn : ∀ k ∈ kvs.map (·.1), ∃ env', Tgw K vs g (wipeE env vs) k.data env' ∧ EvT K tt env' (f k) ∧ (f k = true → Ev K te env' (wd k))) :
    EvO K (tLc (iX P w (tVar i)) g tt te vs) env (((kvs.map (·.1)).filter f).map wd) := fun σ H H1 st Q q => by
  obtain ⟨o, a, l, ob, es, rfl, hl, kv⟩ := st.get h
  exact ⟨_, a, l, es, rfl, .inr ⟨ob, st.e _ _ hl, lcX_core st hl kv f wd hz turn Q q⟩⟩
/-- gives a new list; the state is then told by env' -/
def EvZ (K : PySem.W.Frag) (te : TE) (env env' : List SV) (xs : List PyData) : Prop := ∀ σ H H1, Stt K H H1 σ env → ∀ Q : VK, (∀ p vs G H2, Fr (Ow σ env) H H1 G H2 → Stt K G H2 σ env' → (∀ l, Ow σ env' l → Ow σ env l) → H1 p = none → G p = none → H2 p = some (.lst vs) → DpAll K G vs xs → Q (.ref p) H2) → te σ H1 Q
/-- [e for k in d if ..], from then on d is held as it is -/
theorem ez_lcX (h : env[i]? = some (.dct P w kvs)) (f : NestedKey → Bool) (wd : NestedKey → PyData) {g : TG} {vs : List Nat} (hz : kvs.length < 100000) (turn : ∀ k ∈ kvs.map (·.1), ∃ env', Tgw K vs g (wipeE (env.set i (.dcf P w kvs)) vs) k.data env' ∧ EvT K tt env' (f k) ∧ (f k = true → Ev K te env' (wd k))) :
    EvZ K (tLc (iX P w (tVar i)) g tt te vs) env (env.set i (.dcf P w kvs)) (((kvs.map (·.1)).filter f).map wd) := fun σ H H1 st Q q => by
  obtain ⟨l, es, a, hl, kv, fz⟩ := st.freezeX h
  refine ⟨_, a, l, es, rfl, .inl ⟨hl, fun o => ?_⟩⟩
  obtain ⟨st2, f2, o2⟩ := fz o
  have hn : H l = none := (st.owned ⟨i, _, h, rfl, a⟩).1
  refine lcX_core st2 (ob := o) upd_same (kv.mono (newS hn)) f wd hz turn Q fun p vs G H2 f3 hp hg h2 dv => ?_
  exact q p vs G H2 (f2.tr0 f3) (st2.mono f3) o2 (f2.m _ hp) hg h2 dv
theorem ez_sort {α : Type} (en : α → PyData) {zs : List α} {env' : List SV} (ha : EvZ K ta env env' (zs.map en)) (al : ∀ a b, PySem.W.alike (en a) (en b) = true) (so : (∀ a, ∃ x r, en a = .tuple (x :: r)) ∨ ∀ a, en a ≠ .none ∧ ∀ ys, en a ≠ .tuple ys) (hl : zs.length ≤ 100000) (hd : ∀ a, (en a).depth ≤ 8) :
    EvZ K (tCB (rSortD K) (tCons ta tNil)) env env' ((zs.mergeSort (PySem.W.dataLe false en)).map en) := fun σ H H1 st Q q =>
  ha σ H H1 st _ fun p vs G H2 f st2 ow hp hg h2 dv => by
    have em : (zs.mergeSort (PySem.W.dataLe false en)).map en = (zs.map en).mergeSort (PySem.W.dataLe false id) := List.map_mergeSort (r := PySem.W.dataLe false en) (s := PySem.W.dataLe false id) (f := en) fun _ _ _ _ => rfl
    refine ⟨G, p, vs, zs.map en, rfl, f.r, .inl (.inl h2), dv, PySem.W.AllAlike.of al, ?_, by rw [List.length_map]; exact hl, fun d h => ?_, fun ys p2 dy hp2 => ?_⟩
    · rcases so with so | so
      · exact PySem.W.Sortable.tuples so
      · exact PySem.W.Sortable.others so
    · obtain ⟨b, _, rfl⟩ := List.mem_map.mp h; exact hd b
    · rw [← em] at dy
      have f3 : Fr0 G H2 G (upd H2 p2 (.lst ys)) := Fr.hid f.r hp2
      exact q p2 ys G _ (f.tr0 f3) (st2.mono f3) ow (f.m _ hp2) (f.r.free hp2) upd_same dy
theorem sx_setZ {env' : List SV} (h : EvZ K te env env' xs) : Sx K X (tAsg te (gName j)) env (.nx (env'.set j (.own xs))) := fun σ H H1 st D q =>
  h σ H H1 st _ fun p vs G H2 f st2 ow hp hg h2 dv => by
    refine q _ G H2 f (st2.setO ⟨p, vs, rfl, hg, h2, dv⟩ fun j' s b1 b2 _ z => ?_) fun l z => ?_
    · exact (st.owned (ow _ ⟨j', s, b1, b2, z⟩)).2 hp
    · rcases Ow.set z with z | ⟨_, z⟩
      · exact .inl (ow _ z)
      · cases z; exact .inr hp
end
end Pf

/-! min of two lists; d.get -/
namespace Pf
open PySem PySem.Spec PyProof.Rows L2
section
variable {prog : Program} {w : World}
variable {A : Around} {s : Shared}
variable {E : Value → Shared → Prop}
/-- the three turns of min(a, b) -/
theorem min_turns {a b : Value} {k : Bool} {S I : Addr} {fp wr : List Addr} {St : Nat → Heap → Prop} {h0 : Heap} {R : Result → Shared → Prop} (W : Walks prog w A.in1 I fp wr 2 (fun i v => #[a, b][i]? = some v) St) (hSf : S ∉ fp)
    (hold : ∀ c o, h0.get? c = some o → c ∉ wr ∧ c ≠ S)
    (hcmp : ∀ (s' : Shared) (Q' E' : Value → Shared → Prop), (∀ c o, h0.get? c = some o → s'.heap.get? c = some o) → Q' (.bool k) s' → wpAny (model prog w) A.in1 (richCompare .Lt b a) Q' E' s')
    {c0 : Nat} (st0 : St 0 s.heap) (hS : s.heap.get? S = some { cls := .type "list", dict := none, data := .seq #[] c0, slots := #[] }) (ho : ∀ c o, h0.get? c = some o → s.heap.get? c = some o)
    (hR : ∀ h' tk, (∀ c o, h0.get? c = some o → h'.get? c = some o) → R (.ok (.ret (if k then b else a))) { s with heap := h', toks := tk }) : codeAny (model prog w) A (.builtin "min.loop" ⟨[.ref I, .none, .ref S], []⟩) R s := by
  have nw : S ∉ wr := fun z => hSf (W.sub _ z)
  have nm : (toString "min" ++ toString ".loop" : String) = "min.loop" := by decide
  have last : ∀ (s : Shared) (v : Value) (c : Nat), St 2 s.heap → s.heap.get? S = some { cls := .type "list", dict := none, data := .seq #[v, v] c, slots := #[] } → (∀ h' tk, (∀ b o, b ∉ wr → b ≠ S → s.heap.get? b = some o → h'.get? b = some o) → R (.ok (.ret v)) { s with heap := h', toks := tk }) → codeAny (model prog w) A (.builtin "min.loop" ⟨[.ref I, .none, .ref S], []⟩) R s := by
    intro s v c st hS hR
    refine (codeAny_builtin F.entry_min_loop ?_)
    rw [(Around.under_plainId F.plain_min_loop _)]
    show wpAny (model prog w) A.in1 (seqItems? (.ref S) >>= _) _ _ s
    apply wpAny_bind
    refine wpAny_seqItems hS rfl ?_
    show wpAny (model prog w) A.in1 (tryCatch (pyNext (.ref I)) _ >>= _) _ _ s
    apply wpAny_bind
    refine wpAny_tryCatch (W.done s _ _ st fun h1 tk hk => ?_)
    have hS1 := (hk S _ nw hS)
    show wpAny (model prog w) A.in1 (updateSeq S (fun _ => #[]) >>= _) _ _ _
    apply wpAny_bind
    refine wpAny_updateSeq hS1 rfl (wpAny_bind (wpAny_letGo (wpAny_pure ?_)))
    exact hR _ tk fun d o n1 n2 e => (Heap.get?_update_other _ _ (Ne.symm n2)).trans (hk d o n1 e)
  refine (codeAny_builtin F.entry_min_loop ?_)
  rw [(Around.under_plainId F.plain_min_loop _)]
  show wpAny (model prog w) A.in1 (seqItems? (.ref S) >>= _) _ _ s
  apply wpAny_bind
  refine wpAny_seqItems hS rfl ?_
  show wpAny (model prog w) A.in1 (tryCatch (pyNext (.ref I)) _ >>= _) _ _ s
  apply wpAny_bind
  refine wpAny_tryCatch (W.item 0 s _ _ (by decide) st0 fun v h1 tk1 hv st1 hk1 => ?_)
  have ev : a = v := by simpa using hv
  subst ev
  have hS1 := (hk1 S _ nw hS)
  show wpAny (model prog w) A.in1 (updateSeq S (fun _ => #[a, a]) >>= _) _ _ _
  apply wpAny_bind
  refine wpAny_updateSeq hS1 rfl ?_
  rw [nm]
  apply wpAny_pure
  refine ⟨plainId_quiet F.plain_min_loop _, ?_⟩
  have st1' : St 1 (h1.update S (Obj.mapSeq fun _ => #[a, a])) := W.frame _ _ _ st1 fun d hd o e => (Heap.get?_update_other _ _ (fun z : S = d => hSf (by rw [z]; exact hd))).trans e
  have hS2 : (h1.update S (Obj.mapSeq fun _ => #[a, a])).get? S = some _ := Heap.get?_update_self _ hS1 rfl
  have ho1 : ∀ c o, h0.get? c = some o → (h1.update S (Obj.mapSeq fun _ => #[a, a])).get? c = some o := fun c o e => (Heap.get?_update_other _ _ (Ne.symm (hold c o e).2)).trans (hk1 c o (hold c o e).1 (ho c o e))
  generalize h1.update S (Obj.mapSeq fun _ => #[a, a]) = h2 at st1' hS2 ho1
  refine (codeAny_builtin F.entry_min_loop ?_)
  rw [(Around.under_plainId F.plain_min_loop _)]
  show wpAny (model prog w) A.in1 (seqItems? (.ref S) >>= _) _ _ _
  apply wpAny_bind
  refine wpAny_seqItems hS2 rfl ?_
  show wpAny (model prog w) A.in1 (tryCatch (pyNext (.ref I)) _ >>= _) _ _ _
  apply wpAny_bind
  refine wpAny_tryCatch (W.item 1 _ _ _ (by decide) st1' fun v h3 tk3 hv st2 hk3 => ?_)
  have ev : b = v := by simpa using hv
  subst ev
  have hS3 := (hk3 S _ nw hS2)
  have ho3 : ∀ c o, h0.get? c = some o → h3.get? c = some o := fun c o e => hk3 c o (hold c o e).1 (ho1 c o e)
  show wpAny (model prog w) A.in1 (tryCatch (holding [b, b] (richCompare .Lt b a >>= _)) _ >>= _) _ _ _
  apply wpAny_bind
  refine wpAny_tryCatch (wpAny_holding (wpAny_bind (hcmp _ _ _ ho3 ?_)))
  apply wpAny_bind
  refine wpAny_holding (wpAny_truthy_bool ?_)
  apply wpAny_bind
  refine wpAny_letGo (wpAny_pure ?_)
  cases k with
  | true =>
    simp only [if_true]
    apply wpAny_bind
    apply wpAny_updateSeq hS3 rfl
    apply wpAny_bind
    refine wpAny_letGo ?_
    rw [nm]
    refine wpAny_pure ⟨plainId_quiet F.plain_min_loop _, last _ b _ (W.frame _ _ _ st2 fun d hd o e => (Heap.get?_update_other _ _ (fun z : S = d => hSf (by rw [z]; exact hd))).trans e) (Heap.get?_update_self _ hS3 rfl) fun h' tk hk => ?_⟩
    exact hR h' tk fun c o e => hk c o (hold c o e).1 (hold c o e).2 ((Heap.get?_update_other _ _ (Ne.symm (hold c o e).2)).trans (ho3 c o e))
  | false =>
    simp only [if_false, Bool.false_eq_true]
    apply wpAny_bind
    refine wpAny_letGo ?_
    rw [nm]
    refine wpAny_pure ⟨plainId_quiet F.plain_min_loop _, last _ a _ st2 hS3 fun h' tk hk => ?_⟩
    exact hR h' tk fun c o e => hk c o (hold c o e).1 (hold c o e).2 (ho3 c o e)
theorem min_pair {a b : Value} {k : Bool} {Q : Value → Shared → Prop} (hh : A.handled = none)
    (hcmp : ∀ (s' : Shared) (Q' E' : Value → Shared → Prop), (∀ c o, s.heap.get? c = some o → s'.heap.get? c = some o) → Q' (.bool k) s' → wpAny (model prog w) A.in1 (richCompare .Lt b a) Q' E' s')
    (h : ∀ h' tk, (∀ c o, s.heap.get? c = some o → h'.get? c = some o) → Q (if k then b else a) { s with heap := h', toks := tk }) : wpAny (model prog w) A (call (.builtin "min") [a, b]) Q E s := by
  have nm : (toString "min" ++ toString ".loop" : String) = "min.loop" := by decide
  have ht : (s.heap.push { cls := .type "tuple", data := .seq #[a, b] }).IsTuple s.heap.objs.size #[a, b] := ⟨_, Heap.get?_push_size _ rfl, rfl, 0, rfl⟩
  have zs : (s.heap.push { cls := .type "tuple", data := .seq #[a, b] }).objs.size = s.heap.objs.size + 1 := Heap.size_push ..
  have W := Walks.tuple (prog := prog) (w := w) (A := A.in1) hh (s.heap.push { cls := .type "tuple", data := .seq #[a, b] }).objs.size s.heap.objs.size (by rw [zs]; exact Nat.ne_of_lt (Nat.lt_succ_self _)) #[a, b]
  generalize eI : (s.heap.push { cls := .type "tuple", data := .seq #[a, b] }).objs.size = I at W
  have hI0 : I = s.heap.objs.size + 1 := by rw [← eI, zs]
  have fresh : ∀ c o, s.heap.get? c = some o → c ≠ I ∧ c ≠ I + 1 := fun c o e => by
    have z : c < s.heap.objs.size := Heap.lt_size e
    rw [hI0]
    exact ⟨Nat.ne_of_lt (Nat.lt_succ_of_lt z), Nat.ne_of_lt (Nat.lt_succ_of_lt (Nat.lt_succ_of_lt z))⟩
  refine call_function_tree F.kind_min F.plain_min F.entry_min (F.args_min2 a b) (wpAny_bind (wpAny_of_eq (show Builtin.Builtins.bindParams "min" ["key", "default"] 0 ⟨[], []⟩ = pure [none, none] from rfl) ?_))
  show wpAny _ _ (newTuple [a, b] >>= _) _ _ s
  apply wpAny_bind
  refine wpAny_newObj_type ?_
  apply wpAny_bind
  refine wpAny_pyIter_tuple ht ?_
  rw [eI]
  apply wpAny_bind
  refine wpAny_newObj_type ?_
  rw [nm]
  apply wpAny_pure
  refine ⟨plainId_quiet F.plain_min_loop _, ?_⟩
  have z2 : ((s.heap.push { cls := .type "tuple", data := .seq #[a, b] }).push { cls := .type "tuple_iterator", data := .fields #[.ref s.heap.objs.size, .int 0 0] }).objs.size = I + 1 := by rw [Heap.size_push, eI]
  have hI : ((s.heap.push { cls := .type "tuple", data := .seq #[a, b] }).push { cls := .type "tuple_iterator", data := .fields #[.ref s.heap.objs.size, .int 0 0] }).get? I = some { cls := .type "tuple_iterator", data := .fields #[.ref s.heap.objs.size, .int 0 0] } := by rw [← eI]; exact Heap.get?_push_size _ rfl
  refine min_turns (h0 := s.heap) (k := k) W (fun z => ?_) (fun c o e => ⟨fun z => ?_, fun z => ?_⟩) hcmp ⟨?_, ?_⟩ (Heap.get?_push_size _ rfl) (fun c o e => Heap.get?_push_of_some _ (Heap.get?_push_of_some _ (Heap.get?_push_of_some _ e))) fun h' tk hk => h h' tk hk
  · have z' : (I + 1 : Nat) ∈ [I, s.heap.objs.size] := by rw [← z2]; exact z
    rcases List.mem_cons.mp z' with y | y
    · exact Nat.succ_ne_self I y
    · have := List.mem_singleton.mp y
      rw [hI0] at this; omega
  · exact (fresh c o e).1 (List.mem_singleton.mp z)
  · exact (fresh c o e).2 (z.trans z2)
  · exact ⟨_, Heap.get?_push_of_some _ hI, rfl, rfl⟩
  · exact (ht.push _).push _
/-- min(a, b), two lists of whole numbers -/
def rMin2L (K : PySem.W.Frag) : List V → Hp → VK → Prop := fun vs H Q => ∃ (x y : V) (d e : PyData), vs = [x, y] ∧ Dp K H x d ∧ Dp K H y e ∧ PySem.W.alike e d = true ∧ e ≠ .none ∧ e.depth ≤ 8 ∧ Q (if PySem.W.dataLt e d then y else x) H
theorem cr_min2L {X : Cx} (hc : X.calm = true) (hu : X.A.units + 65 < cLine) : CallR X (.builtin "min") (rMin2L X.K) := by
  intro pins s σ H vs us Q I r h
  obtain ⟨x, y, d, e, rfl, hx, hy, al, hn, hz, q⟩ := h
  obtain ⟨u, v, rfl, r1, r2⟩ := L2.vals2 r
  obtain ⟨as, w1⟩ := Dp.reads I d x u hx r1
  obtain ⟨bs, w2⟩ := Dp.reads I e y v hy r2
  refine min_pair (k := PySem.W.dataLt e d) (I.ok.hd hc) (fun s' Q' E' hk q' => ?_) fun h' tk hk => ⟨_, H, I.kept hk, ?_, q⟩
  · exact PySem.W.rcLt_alike e d _ s' v u bs as (PyProof.Rows.Reads.keeps hk w2) (PyProof.Rows.Reads.keeps hk w1) al hn (by show X.A.units + 1 + _ < cLine; omega) _ _ _ _ q'
  · cases PySem.W.dataLt e d with
    | true => exact r2
    | false => exact r1
end
section
variable {X : Cx}
/-- d.get(k, x) -/
theorem pe_getX {o k x : Expr} {to tk tx : TE} {apos cpos : Pos} (hr : X.A.units + 65 < cLine) (ho : PE X o to) (ha : PA X [k, x] (tCons tk (tCons tx tNil)))
    (hb : attributeBase o "get" X.env (eval o X.env) = eval o X.env := by rfl)
    (hf : ((backTo cpos (starEach [k, x] X.env)).all (fun x => !x.1) && (backToKw cpos (keywordEach [] X.env)).all (fun x => x.1.isSome) && decide (([k, x] : List Expr).length + ([] : List Keyword).length + (if ([] : List Keyword).isEmpty then 0 else 1) < 30)) = true := by rfl)
    (hl : (apos.endLine == cpos.line) = true := by rfl) (hs : starEach [k, x] X.env = (false, eval k X.env) :: starEach [x] X.env := by rfl) (hp : (backTo cpos (starEach [x] X.env)).any (·.1) = false := by rfl) :
    PE X (.Call (.Attribute o "get" apos) [k, x] [] cpos) (tGetX X.prog X.w X.K to tk tx) := ⟨fun pins s σ H Q I h => by
  refine wpAny_Call_method_late hb hf hl rfl (thn (ho.run pins s σ H _ I h) fun v s1 ⟨x1, H1, I1, r1, ⟨D, xs, e1, hD, hx1⟩, q1⟩ => ?_)
  subst e1
  have r1' : v = .ref D := r1
  subst r1'
  obtain ⟨e0, dd⟩ := hD.of I1 hx1
  have dk : Heap.DictKeyed (nestedKind X.prog X.w) s1.heap D (pairsH xs) := ⟨xs, dd, rfl⟩
  refine ⟨"dict", "dict.get", F.plainAttrs_dict, F.slot_dict_get, F.type_dict_get, dk.typeIs, fun a e => ?_, ?_⟩
  · cases e
    obtain ⟨o', es, ep, g1, g2, _⟩ := dd
    exact ⟨o', g1, g2.2.1⟩
  · have hA := ha.run cpos pins s1 σ H1 (fun vs H2 => rGetX X.prog X.w X.K (.ref D) vs H2 Q) I1 q1
    rw [hs] at hA ⊢
    refine Calls.callWith_builtin (by show (false || (backTo cpos (starEach [x] X.env)).any (·.1)) = false; rw [hp] <;> rfl) (Calls.evalArgs_plain ?_)
    exact thn hA fun us s2 ⟨vs, H2, I2, r2, q2⟩ => mt_getX hr pins s2 σ H2 (.ref D) vs (.ref D) us Q I2 rfl r2 q2⟩
end
section
variable {K : PySem.W.Frag} {env : List SV} {ta tb te : TE}
theorem ek_min2 {xs ys : List Int} (ha : EvKn K ta env (xs.map .int)) (hb : EvKn K tb env (ys.map .int)) : EvKn K (tCB (rMin2L K) (tCons ta (tCons tb tNil))) env ((if ys < xs then ys else xs).map .int) := fun σ H H1 st Q q =>
  ha σ H H1 st _ fun p vs G H2 f g dv => hb σ G H2 (st.mono f) _ fun p2 vs2 G2 H3 f2 g2 dv2 => by
    have e : PySem.W.dataLt (.list (ys.map .int)) (.list (xs.map .int)) = decide (ys < xs) := by
      rw [PySem.W.dataLt_list]; exact PySem.W.dataLt_ints ys xs
    have g3 := f2.g _ _ g
    refine ⟨.ref p, .ref p2, _, _, rfl, dm f2.r (dp_list g3 (dms f2.g dv)), dm f2.r (dp_list g2 dv2), by rw [PySem.W.alike]; exact PySem.W.alike_ints _ _, (fun z => nomatch z), ?_, ?_⟩
    · rw [PyData.depth, PySem.W.depth_ints]; decide
    · rw [e]
      by_cases c : ys < xs
      · rw [decide_eq_true c, if_pos c] at *
        exact q p2 vs2 G2 H3 (f.tr0 f2) g2 dv2
      · rw [decide_eq_false c, if_neg c] at *
        exact q p vs G2 H3 (f.tr0 f2) g3 (dms f2.g dv)
end
end Pf

/-! a def that gives a list of its own within a tuple; lists that are forgotten -/
namespace Pf
open PySem PySem.Spec PyProof.Rows L2
/-- what is known, but for lists that begin with a whole number -/
def noI (H : Hp) : Hp := fun p => match H p with
  | some (.lst (.int _ :: _)) => none
  | x => x
theorem noI_same (H : Hp) : Same (noI H) H := fun p o e => by
  unfold noI at e
  split at e
  · cases e
  · exact e
theorem noI_keep {H : Hp} {p : Addr} {o : HO} (e : H p = some o) (n : ∀ i t, o ≠ .lst (.int i :: t)) : noI H p = some o := by
  unfold noI
  split
  · rename_i i t h; rw [e] at h; exact absurd (Option.some.inj h) (n _ _)
  · exact e
theorem noI_int {H : Hp} {p : Addr} {i : Int} {t : List V} (e : H p = some (.lst (.int i :: t))) : noI H p = none := by
  unfold noI; rw [e]
def headI : List PyData → Bool
  | .int _ :: _ => true
  | _ => false
mutual
/-- no list within begins with a whole number -/
def clean : PyData → Bool
  | .list ds => !headI ds && cleans ds
  | .tuple ds => cleans ds
  | _ => true
def cleans : List PyData → Bool
  | [] => true
  | d :: r => clean d && cleans r
end
section
variable {K : PySem.W.Frag} {H : Hp}
theorem noI_sqt {a : Addr} {vs : List V} (h : SqT K H a vs) : SqT K (noI H) a vs := by
  rcases h with (h | ⟨o, h⟩) | h
  · exact .inl (.inl (noI_keep h fun _ _ z => nomatch z))
  · exact .inl (.inr ⟨o, noI_keep h fun _ _ z => nomatch z⟩)
  · exact .inr h
theorem noI_sql {a : Addr} {vs : List V} (hv : ∀ i t, vs ≠ .int i :: t) (h : SqL K H a vs) : SqL K (noI H) a vs := by
  rcases h with (h | ⟨o, h⟩) | h
  · exact .inl (.inl (noI_keep h fun i t z => hv i t (by injection z)))
  · exact .inl (.inr ⟨o, noI_keep h fun _ _ z => nomatch z⟩)
  · exact .inr h
theorem head_no {vs : List V} {ds : List PyData} (h : DpAll K H vs ds) (c : headI ds = false) : ∀ i t, vs ≠ .int i :: t := fun i t e => by
  subst e
  cases h with
  | cons a b => cases a; cases c
mutual
theorem dp_clean : ∀ {v : V} {d : PyData}, Dp K H v d → clean d = true → Dp K (noI H) v d
  | _, _, .non, _ => .non
  | _, _, .bl b, _ => .bl b
  | _, _, .int i, _ => .int i
  | _, _, .str x, _ => .str x
  | _, _, .lst a b, c => by
    rw [clean, Bool.and_eq_true, Bool.not_eq_true'] at c
    exact .lst (noI_sql (head_no b c.1) a) (dpa_clean b c.2)
  | _, _, .tup a b, c => by
    rw [clean] at c
    exact .tup (noI_sqt a) (dpa_clean b c)
theorem dpa_clean : ∀ {vs : List V} {ds : List PyData}, DpAll K H vs ds → cleans ds = true → DpAll K (noI H) vs ds
  | _, _, .nil, _ => .nil
  | _, _, .cons a b, c => by
    rw [cleans, Bool.and_eq_true] at c
    exact .cons (dp_clean a c.1) (dpa_clean b c.2)
end
/-- a list of whole numbers that is known behind a start without such ones is new -/
theorem new_list {H0 H1 G H2 : Hp} {W : Addr → Prop} (f : Fr W (noI H0) H1 G H2) (hw : ∀ p, ¬ W p) {p : Addr} {i : Int} {t : List V} (g : G p = some (.lst (.int i :: t))) : H1 p = none := by
  have h0 : noI H0 p = none := by
    cases e : noI H0 p with
    | none => rfl
    | some o =>
      have e2 := f.g _ _ e
      rw [g] at e2
      obtain rfl := Option.some.inj e2
      have e3 := noI_same H0 _ _ e
      rw [noI_int e3] at e; cases e
  cases e : H1 p with
  | none => rfl
  | some o =>
    have := f.n p (hw p) h0 (by rw [e]; exact fun z => nomatch z)
    rw [g] at this; cases this
end
section
variable {K : PySem.W.Frag} {X : WX} {env env' : List SV} {ta tb te : TE} {xs rs ds : List PyData} {d : PyData} {oc : Oc} {aa : TA} {u : TS} {i : Nat} {H H1 : Hp} {σ : L2.St} {k : Str}
theorem sx_retK (h : EvKn K te env xs) : Sx K X (tRet te) env (.rk xs) := fun σ H H1 st D q =>
  h σ H H1 st _ fun p vs G H2 f g dv => q p vs G H2 (f.mono fun _ z => z.elim) g dv
/-- return (text, a new list) -/
theorem sx_retG {s : Str} (h : EvO K te env xs) : Sx K X (tRet (tTup (tCons (tC (.str s)) (tCons te tNil)))) env (.rg s xs []) := fun σ H H1 st D q =>
  h σ H H1 st _ fun p vs G H2 f hp hg h2 dv => ⟨sz_ok (Nat.le_of_ble_eq_true rfl), fun t ht => by
    have nt : p ≠ t := fun z => by rw [z, ht] at h2; cases h2
    have f2 : Fr0 G H2 (upd G t (.tup [.str s, .ref p])) (upd H2 t (.tup [.str s, .ref p])) := Fr.new f.r ht
    exact q t p vs [] _ _ ((f.tr0 f2).mono fun _ z => z.elim) (.inl (.inl upd_same)) .nil (.inr hp) (by rw [upd_ne nt]; exact hg) (by rw [upd_ne nt]; exact h2) (dms f2.g dv)⟩
/-- return (text, one's own list, data) -/
theorem sx_retG3 {s : Str} (h : env[i]? = some (.own xs)) (he : Ev K te env d) : Sx K X (tRet (tTup (tCons (tC (.str s)) (tCons (tVar i) (tCons te tNil))))) env (.rg s xs [d]) := fun σ H H1 st D q => by
  obtain ⟨l, vs, a, b, c, dv⟩ := st.own h
  refine ⟨_, a, he σ H H1 st _ fun v G H2 f dd => ⟨sz_ok (Nat.le_of_ble_eq_true rfl), fun t ht => ?_⟩⟩
  obtain ⟨l', vs', a', b', c', dv'⟩ := (st.mono f).own h
  rw [a] at a'; cases a'
  have nt : l ≠ t := fun z => by rw [z, ht] at c'; cases c'
  have f2 : Fr0 G H2 (upd G t (.tup [.str s, .ref l, v])) (upd H2 t (.tup [.str s, .ref l, v])) := Fr.new f.r ht
  exact q t l vs' [v] _ _ ((f.tr0 f2).mono fun _ z => z.elim) (.inl (.inl upd_same)) (.cons (dm f2.g dd) .nil) (.inl ⟨i, _, h, rfl, a⟩) (by rw [upd_ne nt]; exact b') (by rw [upd_ne nt]; exact c') (dms f2.g dv')
/-- a def that gives such a tuple, or raises -/
def spGd (K : PySem.W.Frag) (R : List PyData → Str × List PyData × List PyData → Prop) (B : List PyData → Value → Prop) : Sp := fun vs H1 Q E => ∃ H ds, Same H H1 ∧ DpAll K H vs ds ∧
  ((∃ o, R ds o ∧ ∀ t l ws us G H2, Fr0 H H1 G H2 → SqT K G t (.str o.1 :: .ref l :: us) → DpAll K G us o.2.2 → H1 l = none → G l = none → H2 l = some (.lst ws) → DpAll K G ws o.2.1 → Q (.ref t) H2) ∨ ∃ c, B ds c ∧ ∀ G H2, Fr0 H H1 G H2 → E c none H2)
variable {R : List PyData → Str × List PyData × List PyData → Prop} {B : List PyData → Value → Prop} {E : L2.St → XK} {c : Value}
theorem known_new {G H2 : Hp} {l : Addr} {ws : List V} (ff : Fr0 H H1 G H2) (hn : H1 l = none) (hg : G l = none) (h2 : H2 l = some (.lst ws)) : Fr0 H H1 (upd G l (.lst ws)) H2 := ⟨ff.g.trans (newS hg), fun p o z => by
    by_cases e : p = l
    · subst e; rw [upd_same] at z; rw [← z]; exact h2
    · rw [upd_ne e] at z; exact ff.r _ _ z, ff.s, fun p w z1 z2 => by
    by_cases e : p = l
    · subst e; exact absurd hn z2
    · rw [upd_ne e]; exact ff.n p w z1 z2, ff.m⟩
theorem sx_setGd (ha : EvA K aa env ds) (hr : R ds (k, xs, rs)) : Sx K X (tAsg (tCallS (spGd K R B) E aa) (gName i)) env (.nx (env.set i (.kpg k xs rs))) := fun σ H H1 st D q =>
  ha σ H H1 st _ fun vs G H2 f dv => ⟨G, ds, f.r, dv, .inl ⟨(k, xs, rs), hr, fun t l ws us G3 H3 f3 ht hu h1 hg h2 hd => by
    have ff := known_new (f.tr0 f3) (f.m _ h1) hg h2
    refine q _ _ _ (ff.mono fun _ z => z.elim) ((st.mono ff).setV (s₀ := .kpg k xs rs) rfl ⟨t, l, ws, us, rfl, sqt (newS hg) ht, upd_same, dms (newS hg) hd, dms (newS hg) hu⟩) fun p z => ?_
    rcases Ow.set z with z | ⟨z, _⟩
    · exact .inl z
    · cases z⟩⟩
/-- as data -/
theorem ev_callGd (ha : EvA K aa env ds) (hr : R ds (k, xs, rs)) : Ev K (tCallS (spGd K R B) E aa) env (.tuple (.str k :: .list xs :: rs)) := fun σ H H1 st Q q =>
  ha σ H H1 st _ fun vs G H2 f dv => ⟨G, ds, f.r, dv, .inl ⟨(k, xs, rs), hr, fun t l ws us G3 H3 f3 ht hu h1 hg h2 hd => by
    have ff := known_new (f.tr0 f3) (f.m _ h1) hg h2
    exact q _ _ _ ff (.tup (sqt (newS hg) ht) (.cons (.str k) (.cons (dp_list upd_same (dms (newS hg) hd)) (dms (newS hg) hu))))⟩⟩
theorem evx_callGd (ha : EvA K aa env ds) (hb : B ds c) : EvX K X (tCallS (spGd K R B) (WE X) aa) env c := fun σ H H1 st Q q =>
  ha σ H H1 st _ fun vs G H2 f dv => ⟨G, ds, f.r, dv, .inr ⟨c, hb, fun G3 H3 f3 => q G3 H3 (f.tr0 f3)⟩⟩
theorem ev_kpg (h : env[i]? = some (.kpg k xs rs)) : Ev K (tVar i) env (.tuple (.str k :: .list xs :: rs)) := fun σ H H1 st Q q => by
  obtain ⟨o, a, t, l, vs, us, rfl, e1, e2, e3, e4⟩ := st.get h
  exact ⟨_, a, q _ H H1 (Fr.refl st.e) (.tup e1 (.cons (.str k) (.cons (dp_list e2 e3) e4)))⟩
theorem atI_one {α : Type} {x y : α} {t : List α} : atI (x :: y :: t) (1 : Int) = some y := by
  unfold atI ixN
  rw [if_pos (by decide), if_pos (by rw [List.length_cons, List.length_cons]; omega)]; rfl
/-- the list within, as it is -/
theorem ek_kpg (h : env[i]? = some (.kpg k xs rs)) : EvKn K (tOp (rIxT K) (tVar i) (tC (.int 1))) env xs := fun σ H H1 st Q q => by
  obtain ⟨o, a, t, l, vs, us, rfl, e1, e2, e3, e4⟩ := st.get h
  exact ⟨_, a, t, _, 1, _, rfl, rfl, sqt st.e e1, atI_one, q l vs H H1 (Fr.refl st.e) e2 e3⟩
/-- what stays when lists of whole numbers are forgotten -/
inductive Keeps : List SV → List SV → Prop where
  | nil : Keeps [] []
  | no {s : SV} {a b : List SV} : Keeps a b → Keeps (s :: a) (.no :: b)
  | dat {d : PyData} {a b : List SV} : clean d = true → Keeps a b → Keeps (.dat d :: a) (.dat d :: b)
  | own {xs : List PyData} {a b : List SV} : cleans xs = true → Keeps a b → Keeps (.own xs :: a) (.own xs :: b)
theorem Keeps.len : ∀ {a b : List SV}, Keeps a b → b.length = a.length
  | _, _, .nil => rfl
  | _, _, .no h => congrArg Nat.succ h.len
  | _, _, .dat _ h => congrArg Nat.succ h.len
  | _, _, .own _ h => congrArg Nat.succ h.len
theorem Keeps.at : ∀ {a b : List SV}, Keeps a b → ∀ (i : Nat) s, b[i]? = some s → s = .no ∨ (a[i]? = some s ∧ ((∃ d, s = .dat d ∧ clean d = true) ∨ ∃ xs, s = .own xs ∧ cleans xs = true))
  | _, _, .nil, i, s, e => by simp at e
  | _, _, .no h, 0, s, e => by simp at e; exact .inl e.symm
  | _, _, .no h, i + 1, s, e => h.at i s (by simpa using e)
  | _, _, .dat c h, 0, s, e => by simp at e; subst e; exact .inr ⟨rfl, .inl ⟨_, rfl, c⟩⟩
  | _, _, .dat c h, i + 1, s, e => h.at i s (by simpa using e)
  | _, _, .own c h, 0, s, e => by simp at e; subst e; exact .inr ⟨rfl, .inr ⟨_, rfl, c⟩⟩
  | _, _, .own c h, i + 1, s, e => h.at i s (by simpa using e)
/-- t[1].clear(), the end gives True whatever stands -/
theorem sx_clearG {j : Int} {ys : List PyData} (h : env[i]? = some (.kpg k (.int j :: ys) rs)) (kp : Keeps env env') (hu : Sx K X u env' .rb) : Sx K X (tSeq (tDrop (tBM0 K "list" rClear (tOp (rIxT K) (tVar i) (tC (.int 1))))) u) env .rb := fun σ H H1 st D q => by
  obtain ⟨o, a, t, l, vs, us, rfl, e1, e2, e3, e4⟩ := st.get h
  obtain ⟨vs', rfl⟩ : ∃ vs', vs = .int j :: vs' := by
    cases e3 with
    | cons a b => cases a; exact ⟨_, rfl⟩
  have h1 := st.e _ _ e2
  refine ⟨_, a, t, _, 1, _, rfl, rfl, sqt st.e e1, atI_one, .inl ⟨rfl, _, .inl (.inl h1)⟩, l, _, rfl, rfl, h1, ?_⟩
  have hl : noI H l = none := noI_int e2
  have nl : ∀ p o, noI H p = some o → p ≠ l := fun p o z y => by rw [y, hl] at z; cases z
  refine hu σ (noI H) (upd H1 l (.lst [])) ⟨fun p o z => ?_, by rw [kp.len]; exact st.l, fun n x s ex es => ?_, fun n m s s' p nm b1 b2 o1 o2 a1 => ?_⟩ D q
  · rw [upd_ne (nl p o z)]; exact st.e _ _ (noI_same H _ _ z)
  · rcases kp.at n s es with rfl | ⟨e, ⟨d, rfl, cd⟩ | ⟨zs, rfl, cz⟩⟩
    · trivial
    · obtain ⟨v, x1, x2⟩ := st.ok n x _ ex e
      exact ⟨v, x1, dp_clean x2 cd⟩
    · obtain ⟨l2, ws, x1, x2, x3, x4⟩ := st.ok n x _ ex e
      have n2 : l2 ≠ l := fun z => by rw [z, e2] at x2; cases x2
      refine ⟨l2, ws, x1, ?_, by rw [upd_ne n2]; exact x3, dpa_clean x4 cz⟩
      cases y : noI H l2 with
      | none => rfl
      | some o => have := noI_same H _ _ y; rw [x2] at this; cases this
  · have up : ∀ (n : Nat) (s : SV), env'[n]? = some s → s.isOwn = true → env[n]? = some s := fun n s e os => by
      rcases kp.at n s e with rfl | ⟨e, _⟩
      · cases os
      · exact e
    exact st.ne n m s s' p nm (up n s b1 o1) (up m s' b2 o2) o1 o2 a1
theorem sx_retB (h : Ev K te env (.bool true)) : Sx K X (tRet te) env .rb := fun σ H H1 st D q =>
  h σ H H1 st _ fun v G H2 f dv => by cases dv; exact q H2
theorem sx_less_rb {env1 : List SV} (l : Less env1 env) (h : Sx K X u env1 .rb) : Sx K X u env .rb := sx_lessL l h
end
end Pf

namespace Pf
open PySem PySem.Spec PyProof.Rows L2
section
variable {K : PySem.W.Frag} {X : WX} {env : List SV} {ta tb te : TE} {tt : TT} {xs : List PyData}
theorem sx_augI {i : Nat} {a b : Int} (h : env[i]? = some (.dat (.int a))) (he : Ev K te env (.int b)) : Sx K X (tAug i te (ipI fun i j => i + j)) env (.nx (env.set i (.dat (.int (a + b))))) := fun σ H H1 st D q => by
  obtain ⟨v, e1, e2⟩ := st.dat h
  cases e2
  refine ⟨_, e1, he σ H H1 st _ fun v G H2 f dv => ?_⟩
  cases dv
  refine ⟨a, b, rfl, rfl, q _ G H2 (f.mono fun _ z => z.elim) ((st.mono f).setD (.int _)) fun l z => ?_⟩
  rcases Ow.set z with z | ⟨z, _⟩
  · exact .inl z
  · cases z
/-- all but what stands at l -/
def rem (H : Hp) (l : Addr) : Hp := fun p => if p = l then none else H p
theorem rem_ne {H : Hp} {l p : Addr} (h : p ≠ l) : rem H l p = H p := if_neg h
mutual
def nolist : PyData → Bool
  | .list _ => false
  | .tuple ds => nolists ds
  | _ => true
def nolists : List PyData → Bool
  | [] => true
  | d :: r => nolist d && nolists r
end
mutual
theorem dp_rem {G : Hp} {l : Addr} {ws : List V} (g : G l = some (.lst ws)) : ∀ {v : V} {d : PyData}, Dp K G v d → nolist d = true → Dp K (rem G l) v d
  | _, _, .non, _ => .non
  | _, _, .bl b, _ => .bl b
  | _, _, .int i, _ => .int i
  | _, _, .str x, _ => .str x
  | _, _, .lst a b, c => by rw [nolist] at c; cases c
  | _, _, .tup (a := a) h b, c => by
    rw [nolist] at c
    refine .tup ?_ (dpa_rem g b c)
    rcases h with (h | ⟨o, h⟩) | h
    · exact .inl (.inl (by rw [rem_ne (fun z => by rw [z, g] at h; cases h)]; exact h))
    · exact .inl (.inr ⟨o, by rw [rem_ne (fun z => by rw [z, g] at h; cases h)]; exact h⟩)
    · exact .inr h
theorem dpa_rem {G : Hp} {l : Addr} {ws : List V} (g : G l = some (.lst ws)) : ∀ {vs : List V} {ds : List PyData}, DpAll K G vs ds → nolists ds = true → DpAll K (rem G l) vs ds
  | _, _, .nil, _ => .nil
  | _, _, .cons a b, c => by
    rw [nolists, Bool.and_eq_true] at c
    exact .cons (dp_rem g a c.1) (dpa_rem g b c.2)
end
/-- within an expression whose answer holds no list, one's own list may be read as data -/
theorem ev_fixT {d : PyData} (i : Nat) (h : env[i]? = some (.own xs)) (nl : nolist d = true) (k : Ev K te (env.set i (.dat (.list xs))) d) : Ev K te env d := fun σ H H1 st Q q => by
  obtain ⟨l, vs, a, b, c, st'⟩ := st.freeze h
  refine k σ _ H1 st' Q fun v G H2 f dv => ?_
  have g : G l = some (.lst vs) := f.g _ _ upd_same
  refine q v (rem G l) H2 ⟨fun p o z => ?_, fun p o z => ?_, f.s, fun p w z1 z2 => ?_, f.m⟩ (dp_rem g dv nl)
  · have n : p ≠ l := fun y => by rw [y, b] at z; cases z
    rw [rem_ne n]; exact f.g _ _ (by rw [upd_ne n]; exact z)
  · by_cases n : p = l
    · subst n; unfold rem at z; rw [if_pos rfl] at z; cases z
    · rw [rem_ne n] at z; exact f.r _ _ z
  · by_cases n : p = l
    · subst n; unfold rem; rw [if_pos rfl]
    · rw [rem_ne n]; exact f.n p w (by rw [upd_ne n]; exact z1) z2
theorem eo_if {b : Bool} (h : EvT K tt env b) (h1 : b = true → EvO K ta env xs) (h2 : b = false → EvO K tb env xs) : EvO K (tIf tt ta tb) env xs := fun σ H H1 st Q q =>
  h σ H H1 st _ fun G H2 f => by
    cases b with
    | true => exact h1 rfl σ G H2 (st.mono f) Q fun p vs G3 H3 f3 a1 a2 a3 a4 => q p vs G3 H3 (f.tr0 f3) (f.m _ a1) a2 a3 a4
    | false => exact h2 rfl σ G H2 (st.mono f) Q fun p vs G3 H3 f3 a1 a2 a3 a4 => q p vs G3 H3 (f.tr0 f3) (f.m _ a1) a2 a3 a4
end
section
variable {K : PySem.W.Frag} {X : WX} {env : List SV} {t u : TS} {oc : Oc} {te : TE} {xs : List PyData} {i j : Nat}
/-- for over range(n), a turn may end the whole -/
theorem sx_forR1E {n : Nat} {aa : TA} {g : TG} {k : Int} (h : EvA K aa env [.int k]) (hk : -100000 ≤ k ∧ k ≤ 100000) (hn : k.toNat = n) (Inv : Nat → List SV) (h0 : Inv 0 = env) (o : Nat → Bool) (ex : Oc) (hx : ex.isNx = false) (hb : ∀ e, ex ≠ .bk e) (hc : ∀ e, ex ≠ .ct e)
    (go : ∀ i : Nat, i < n → (∀ j, j < i → o j = false) → ∃ env', Tg K g (Inv i) (.int i) env' ∧ ((o i = false → Go K X t env' (Inv (i + 1))) ∧ (o i = true → oc = ex ∧ Sx K X t env' ex)))
    (rest : (∀ j, j < n → o j = false) → Sx K X u (Inv n) oc) : Sx K X (tSeq (tFor (iRng1 aa) g t) u) env oc := fun σ H H1 st D q => by
  refine h σ H H1 st _ fun vs G0 H2 f dv => ?_
  cases dv with
  | cons a b =>
      cases b; cases a
      have f' : Fr (Ow σ env) H H1 G0 H2 := f.mono fun _ z => z.elim
      refine ⟨k, rfl, by omega, by omega, for_range (lo := 0) (n := k.toNat) (fun i σ' H' => Pt K (Ow σ env) G0 H2 Inv i σ' H' ∧ ∀ j, j < i → o j = false) ⟨⟨G0, Fr.refl f.r, by rw [h0]; exact st.mono f, fun l z => .inl (by rw [h0] at z; exact z)⟩, fun j hj => absurd hj (Nat.not_lt_zero j)⟩ (fun i σ' H' hi p => ?_) (fun σ' H' p => ?_)⟩
      · obtain ⟨⟨G, f2, st2, ow⟩, hj⟩ := p
        obtain ⟨env', tg, g1, g2⟩ := go i (by omega) hj
        rw [Int.zero_add]
        refine tg σ' G H' _ st2 (.int _) _ fun σ2 st3 o3 => ?_
        have ow3 : ∀ l, Ow σ2 env' l → Ow σ env l ∨ H2 l = none := fun l z => ow l (o3 l z)
        cases hoi : o i with
        | false =>
          have nx : ∀ σ3 G3 H3, Fr (Ow σ2 env') G H' G3 H3 → Stt K G3 H3 σ3 (Inv (i + 1)) → (∀ l, Ow σ3 (Inv (i + 1)) l → Ow σ2 env' l ∨ H' l = none) → Pt K (Ow σ env) G0 H2 Inv (i + 1) σ3 H3 ∧ ∀ j, j < i + 1 → o j = false := fun σ3 G3 H3 f3 st4 o4 =>
            ⟨⟨G3, f2.trans f3 ow3, st4, fun l z => (o4 l z).elim (ow3 l) fun z => .inr (f2.m l z)⟩, fun j hj' => by
              rcases Nat.lt_succ_iff_lt_or_eq.mp hj' with z | z
              · exact hj j z
              · rw [z]; exact hoi⟩
          rcases g1 hoi with w | w
          · exact w σ2 G H' st3 _ nx
          · exact w σ2 G H' st3 _ nx
        | true =>
          obtain ⟨eo, w⟩ := g2 hoi
          refine w σ2 G H' st3 _ ?_
          have q' : OcOk K X (Ow σ2 env') D G H' ex := by
            rw [eo] at q
            refine (q.tr f' fun l z => .inl z).tr f2 ow3
          cases ex with
          | nx e => cases hx
          | bk e => exact absurd rfl (hb e)
          | ct e => exact absurd rfl (hc e)
          | ex c e => exact q'
          | rt d => exact q'
          | rl x => exact q'
          | rr v => exact q'
          | rw vs e => exact q'
          | rk xs => exact q'
          | rg k xs rs => exact q'
          | ry P w kvs => exact q'
          | rb => exact q'
      · obtain ⟨⟨G, f2, st2, ow⟩, hj⟩ := p
        rw [hn] at st2 ow hj
        exact rest hj σ' G H' st2 D ((q.tr f' fun l z => .inl z).tr f2 ow)

/-- a name for what another name owns: the other is told no more -/
theorem sx_move {s : SV} (h : env[i]? = some s) (ho : s.isOwn = true) (ij : i ≠ j) : Sx K X (tAsg (tVar i) (gName j)) env (.nx ((env.set i .no).set j s)) := fun σ H H1 st D q => by
  obtain ⟨o, a, ok⟩ := st.get h
  obtain ⟨p, rfl⟩ : ∃ p, o = some (.ref p) := by
    cases s with
    | own xs => obtain ⟨l, vs, e, _⟩ := ok; exact ⟨l, e⟩
    | obj x => obtain ⟨l, e, _⟩ := ok; exact ⟨l, e⟩
    | ownA l xs => exact ⟨l, ok.1⟩
    | dct P w kvs => obtain ⟨l, xs, e, _⟩ := ok; exact ⟨l, e⟩
    | stk w ks => obtain ⟨l, xs, e, _⟩ := ok; exact ⟨l, e⟩
    | _ => cases ho
  have hi : i < env.length := (List.getElem?_eq_some_iff.mp h).1
  have st0 : Stt K H H1 σ (env.set i .no) := st.re h (fun _ _ _ => trivial) fun z => nomatch z
  refine ⟨_, a, q _ H H1 (Fr.refl st.e) (st0.setO ok fun n s' b1 b2 _ z => ?_) fun l z => ?_⟩
  · by_cases c : i = n
    · subst c; rw [List.getElem?_set_self hi] at b1; cases b1; cases b2
    · rw [List.getElem?_set_ne c] at b1
      exact st.ne i n s s' p c h b1 ho b2 a z
  · rcases Ow.set z with z | ⟨_, z⟩
    · exact .inl (Ow.re (s' := .no) h (fun z => by cases z) z)
    · cases z; exact .inl ⟨i, s, h, ho, a⟩
/-- a known list gets a name -/
theorem sx_setKn (h : EvKn K te env xs) : Sx K X (tAsg te (gName i)) env (.nx (env.set i (.kl xs))) := fun σ H H1 st D q =>
  h σ H H1 st _ fun p vs G H2 f g dv => q _ G H2 (f.mono fun _ z => z.elim) ((st.mono f).setV (s₀ := .kl xs) rfl ⟨p, vs, rfl, g, dv⟩) fun l z => by
    rcases Ow.set z with z | ⟨z, _⟩
    · exact .inl z
    · cases z
theorem ek_kl (h : env[i]? = some (.kl xs)) : EvKn K (tVar i) env xs := fun σ H H1 st Q q => by
  obtain ⟨o, a, p, vs, rfl, e1, e2⟩ := st.get h
  exact ⟨_, a, q p vs H H1 (Fr.refl st.e) e1 e2⟩
end
end Pf

/-! match over a list of texts -/
namespace Pf
open PySem PySem.Spec PyProof.Rows L2
section
variable {prog : Program} {w : World}
variable {A : Around} {E : Value → Shared → Prop}
theorem draw_walk {I : Addr} {fp wr : List Addr} {n : Nat} {Pv : Nat → Value → Prop} {St : Nat → Heap → Prop} (W : Walks prog w A I fp wr n Pv St) : ∀ (k i : Nat) (s : Shared) (Q : List Value → Shared → Prop), i + k ≤ n → St i s.heap →
    (∀ vs h' tk, vs.length = k → (∀ j v, vs[j]? = some v → Pv (i + j) v) → St (i + k) h' → (∀ b o, b ∉ wr → s.heap.get? b = some o → h'.get? b = some o) → Q vs { s with heap := h', toks := tk }) → wpAny (model prog w) A (draw (.ref I) k) Q E s
  | 0, i, s, Q, _, st, hQ => by
    have := hQ [] s.heap s.toks rfl (fun j v z => by simp at z) st fun _ _ _ z => z
    exact (wpAny_pure this : wpAny (model prog w) A (pure []) Q E s)
  | k + 1, i, s, Q, hle, st, hQ => by
    show wpAny (model prog w) A (pyNext (.ref I) >>= _) Q E s
    apply wpAny_bind
    refine W.item i s _ E (by omega) st fun v h1 tk1 hv st1 k1 => ?_
    apply wpAny_bind
    refine wpAny_holding (draw_walk W k (i + 1) _ _ (by omega) st1 fun vs h2 tk2 hl hp st2 k2 => wpAny_pure ?_)
    refine hQ (v :: vs) h2 tk2 (by rw [List.length_cons, hl]) (fun j u z => ?_) (by rw [show i + (k + 1) = i + 1 + k by omega]; exact st2) fun b o nb e => k2 b o nb (k1 b o nb e)
    cases j with
    | zero => simp at z; subst z; exact hv
    | succ j =>
      have := hp j u (by simpa using z)
      rw [show i + (j + 1) = i + 1 + j by omega]; exact this
theorem unpack_list {s : Shared} {l : Addr} {items : Array Value} {Q : List Value → Shared → Prop} (hh : A.handled = none) (hl : s.heap.IsList l items)
    (hQ : ∀ h' tk, (∀ b o, s.heap.get? b = some o → h'.get? b = some o) → Q items.toList { s with heap := h', toks := tk }) : wpAny (model prog w) A (unpackItems (.ref l) items.size none) Q E s := by
  have hlt : l < s.heap.objs.size := by
    obtain ⟨o, eo, _⟩ := hl
    exact Heap.lt_size eo
  have W := Walks.list (prog := prog) (w := w) (A := A) hh s.heap.objs.size l (Nat.ne_of_lt hlt) items
  have old : ∀ {b : Addr} {o : Obj}, s.heap.get? b = some o → b ∉ [s.heap.objs.size] := fun e z => Nat.ne_of_lt (Heap.lt_size e) (List.mem_singleton.mp z)
  unfold unpackItems notIterableAtAll
  apply wpAny_bind
  refine wpAny_bind (wpAny_specialOf hl.typeIs slot_list_iter.lookup (wpAny_pure ?_))
  simp only [if_false, Bool.false_eq_true]
  apply wpAny_bind
  refine wpAny_holding (wpAny_pyIter_list hl ?_)
  apply wpAny_bind
  refine wpAny_holding (draw_walk W items.size 0 _ _ (by omega) ⟨⟨_, Heap.get?_push_size _ rfl, rfl, rfl⟩, hl.push _⟩ fun vs h1 tk1 hv hp st1 k1 => ?_)
  have e : vs = items.toList := by
    refine List.ext_getElem? fun j => ?_
    by_cases c : j < vs.length
    · have e1 := List.getElem?_eq_getElem c
      have := hp j _ e1
      rw [e1, Array.getElem?_toList]
      rw [Nat.zero_add] at this
      exact this.symm
    · rw [List.getElem?_eq_none (by omega), List.getElem?_eq_none (by rw [Array.length_toList]; omega)]
  rw [if_neg (by rw [hv]; omega)]
  apply wpAny_bind
  rw [Nat.zero_add] at st1
  refine wpAny_holding (W.done _ _ E st1 fun h2 tk2 k2 => ?_)
  simp only [Option.isSome_none, if_false, Bool.false_eq_true]
  rw [e]
  exact wpAny_pure (hQ h2 tk2 fun b o z => k2 b o (old z) (k1 b o (old z) (Heap.get?_push_of_some _ z)))
end
/-- a part of a pattern: this text, or any, named -/
inductive Pat1 where
  | lit (x : Str)
  | cap (i : Nat)
def fitP : List Pat1 → List Str → Option (List (Nat × Str))
  | [], [] => some []
  | .lit x :: ps, y :: ys => if y = x then fitP ps ys else none
  | .cap i :: ps, y :: ys => (fitP ps ys).map ((i, y) :: ·)
  | _, _ => none
def bindP (σ : L2.St) : List (Nat × Str) → L2.St
  | [] => σ
  | (i, y) :: r => bindP (σ.set i (some (.str y))) r
inductive PatOk (X : Cx) : Pattern → Pat1 → Prop where
  | lit {x : Str} {k : Nat} {p q : Pos} : PatOk X (.MatchValue (.Constant (.str x) k p) q) (.lit x)
  | cap {n : Str} {i : Nat} {q : Pos} : X.N[i]? = some n → X.env.scope.names.lookup n = some .local → PatOk X (.MatchAs none (some n) q) (.cap i)
inductive PatsOk (X : Cx) : List Pattern → List Pat1 → Prop where
  | nil : PatsOk X [] []
  | cons {p : Pattern} {ps : List Pattern} {q : Pat1} {qs : List Pat1} : PatOk X p q → PatsOk X ps qs → PatsOk X (p :: ps) (q :: qs)
section
variable {X : Cx} {pins : List (Addr × Obj)} {σ : L2.St} {H : Hp}
theorem PatsOk.len : ∀ {ps : List Pattern} {qs : List Pat1}, PatsOk X ps qs → ps.length = qs.length
  | _, _, .nil => rfl
  | _, _, .cons _ h => congrArg Nat.succ h.len
theorem fit_len : ∀ {qs : List Pat1} {ys : List Str} {bs : List (Nat × Str)}, fitP qs ys = some bs → qs.length = ys.length
  | [], [], _, _ => rfl
  | [], _ :: _, _, h => by simp [fitP] at h
  | q :: qs, [], _, h => by cases q <;> simp [fitP] at h
  | .lit x :: qs, y :: ys, bs, h => by
    unfold fitP at h
    split at h
    · exact congrArg Nat.succ (fit_len h)
    · cases h
  | .cap i :: qs, y :: ys, bs, h => by
    unfold fitP at h
    cases e : fitP qs ys with
    | none => rw [e] at h; cases h
    | some b => exact congrArg Nat.succ (fit_len e)
/-- the names and what they get -/
inductive Gets (X : Cx) : List (Str × Value) → List (Nat × Str) → Prop where
  | nil : Gets X [] []
  | cons {n : Str} {i : Nat} {y : Str} {u : Value} {a : List (Str × Value)} {b : List (Nat × Str)} : X.N[i]? = some n → X.env.scope.names.lookup n = some .local → L2.RelV (.str y) u → Gets X a b → Gets X ((n, u) :: a) ((i, y) :: b)
theorem each_ok {s : Shared} : ∀ {ps : List Pattern} {qs : List Pat1} {ys : List Str} {us : List Value} (_ : PatsOk X ps qs) (_ : Vals (ys.map V.str) us) (_ : qs.length = ys.length) (s : Shared) (_ : L2.Inv X pins σ H s) (Q : Option (List (Str × Value)) → Shared → Prop),
    (∀ s' r, L2.Inv X pins σ H s' → (match fitP qs ys with | some bs => ∃ a, r = some a ∧ Gets X a bs | none => r = none) → Q r s') → wpAny (model X.prog X.w) X.A (matchEach ps X.env us) Q X.xe s
  | _, _, [], _, .nil, .nil, _, s, I, Q, q => wpAny_matchEach_nil (q s _ I ⟨[], rfl, .nil⟩)
  | _, _, _ :: _, _, .nil, _, e, _, _, _, _ => by cases e
  | _, _, [], _, .cons _ _, _, e, _, _, _, _ => by cases e
  | _, _, y :: ys, _, .cons (ps := ps) (qs := qs) p r, .cons ru rest, e, s, I, Q, q => by
    have e' : qs.length = ys.length := Nat.succ.inj e
    cases p with
    | @lit x k p1 p2 =>
      refine wpAny_matchEach_cons (wpAny_matchPattern_Value ?_) rfl
      refine thn ((pe_str (X := X) (x := x) (j := k) (pos := p1)).run pins s σ H (fun v H1 => v = .str x ∧ H1 = H) I ⟨rfl, rfl⟩) fun u s1 hv => ?_
      obtain ⟨v, H1, I1, rv, rfl, hH⟩ := hv
      rw [hH] at I1
      refine thn (op_eq pins s1 σ H (.str y) (.str x) _ u (fun z H2 => z = .bl (decide (V.str y = V.str x)) ∧ H2 = H) I1 ru rv ⟨rfl, rfl, rfl⟩) fun c s2 hc => ?_
      obtain ⟨z, H2, I2, rz, rfl, hH2⟩ := hc
      rw [hH2] at I2
      have rz' : c = .bool (decide (V.str y = V.str x)) := rz
      subst rz'
      refine wpAny_truthy_bool ?_
      by_cases c : y = x
      · have e1 : decide (V.str y = V.str x) = true := decide_eq_true (by rw [c])
        rw [e1]
        refine each_ok (ps := ps) (s := s2) r rest e' s2 I2 _ fun s' o I' ho => ?_
        have ef : fitP (.lit x :: qs) (y :: ys) = fitP qs ys := if_pos c
        cases of : fitP qs ys with
        | none =>
          rw [of] at ho
          obtain rfl : o = none := ho
          exact q s' none I' (by rw [ef, of])
        | some bs =>
          rw [of] at ho
          obtain ⟨a, rfl, g⟩ : ∃ a, o = some a ∧ Gets X a bs := ho
          refine q s' _ I' ?_
          rw [ef, of]
          exact ⟨a, rfl, g⟩
      · have e1 : decide (V.str y = V.str x) = false := decide_eq_false fun z => c (by injection z)
        rw [e1]
        refine q s2 none I2 ?_
        have ef : fitP (.lit x :: qs) (y :: ys) = none := if_neg c
        rw [ef]
    | @cap n i p1 hi hx =>
      refine wpAny_matchEach_cons (wpAny_matchPattern_Capture ?_) rfl
      refine each_ok (ps := ps) (s := s) r rest e' s I _ fun s' o I' ho => ?_
      have ef : fitP (.cap i :: qs) (y :: ys) = (fitP qs ys).map ((i, y) :: ·) := rfl
      cases of : fitP qs ys with
      | none =>
        rw [of] at ho
        obtain rfl : o = none := ho
        exact q s' none I' (by rw [ef, of]; rfl)
      | some bs =>
        rw [of] at ho
        obtain ⟨a, rfl, g⟩ : ∃ a, o = some a ∧ Gets X a bs := ho
        refine q s' _ I' ?_
        rw [ef, of]
        exact ⟨_, rfl, .cons hi hx ru g⟩
/-- the names are bound -/
theorem bind_ok (hN : X.N.Nodup) : ∀ {a : List (Str × Value)} {b : List (Nat × Str)} (_ : Gets X a b) (s : Shared) (σ : L2.St) (_ : L2.Inv X pins σ H s) (Q : Unit → Shared → Prop), (∀ s', L2.Inv X pins (bindP σ b) H s' → Q () s') → wpAny (model X.prog X.w) X.A (assignInOrder (a.map fun (n, _) => bindName X.env n) (a.map (·.2))) Q X.xe s
  | _, _, .nil, s, σ, I, Q, q => assignInOrder_nil (q s I)
  | _, _, .cons hi hx r g, s, σ, I, Q, q => wpAny_assignInOrder_more (wpAny_bindName (store_ok I hN hi (.inl hx) r (fun s' I' => bind_ok hN g s' _ I' Q q) (.inr hx)))
/-- the first case that fits -/
def tCases : List (Option (List Pat1) × TS) → List Str → TS
  | [], _ => fun D σ H => D.nx σ H
  | (none, t) :: _, _ => t
  | (some ps, t) :: r, ys => fun D σ H => match fitP ps ys with
    | some bs => t D (bindP σ bs) H
    | none => tCases r ys D σ H
def tMatch (K : PySem.W.Frag) (te : TE) (cs : List (Option (List Pat1) × TS)) : TS := fun D σ H => te σ H fun x H1 => ∃ (a : Addr) (ys : List Str), x = .ref a ∧ SqL K H1 a (ys.map V.str) ∧ ys.length ≤ 100000 ∧ tCases cs ys D σ H1
inductive CasesOk (X : Cx) : List MatchCase → List (Option (List Pat1) × TS) → Prop where
  | nil : CasesOk X [] []
  | seq {ps : List Pattern} {qs : List Pat1} {pos : Pos} {body : List Stmt} {t : TS} {rest : List MatchCase} {cs : List (Option (List Pat1) × TS)} : PatsOk X ps qs → ps.findIdx? (·.isStar) = none → (ps.all fun p => p.isWildcard || (p.isStar && p.names.isEmpty)) = false → PSs X body t → CasesOk X rest cs → CasesOk X (⟨.MatchSequence ps pos, none, body⟩ :: rest) ((some qs, t) :: cs)
  | any {pos : Pos} {body : List Stmt} {t : TS} {rest : List MatchCase} : PSs X body t → CasesOk X (⟨.MatchAs none none pos, none, body⟩ :: rest) [(none, t)]
theorem cases_ok (hc : X.calm = true) (hN : X.N.Nodup) {l : Addr} {ys : List Str} (hl : SqL X.K H l (ys.map V.str)) (hz : ys.length ≤ 100000) : ∀ {cases : List MatchCase} {cs : List (Option (List Pat1) × TS)} (_ : CasesOk X cases cs) (f : Bool) (s : Shared) (_ : L2.Inv X pins σ H s) (D : Ends) (_ : tCases cs ys D σ H), wpAny (model X.prog X.w) X.A (matchCases cases X.env (.ref l) f) (SP X pins D) X.xe s
  | _, _, .nil, f, s, I, D, q => wpAny_matchCases_nil ⟨σ, H, I, q⟩
  | _, _, .any hb, f, s, I, D, q => by
    apply wpAny_matchCases_cons
    apply wpAny_matchPattern_Capture
    apply wpAny_assignInOrder_none
    exact hb.run pins s σ H D I q
  | _, _, .seq (ps := ps0) (qs := qs) (rest := rest) (t := t0) (cs := cs0) hp hs hw hb hr, f, s, I, D, q => by
    apply wpAny_matchCases_cons
    obtain ⟨its, rv, pl, _⟩ := I.list hl
    have il := pl.isList
    have len1 : its.length = ys.length := by
      have := rv.length
      rw [List.length_map] at this; exact this.symm
    have hfit : ((its.toArray.size : Nat) : Int) < 2 ^ 63 := by rw [List.size_toArray]; omega
    by_cases c : ys.length = qs.length
    · refine PyProof.Rows.matchSeq_list_hit il hfit (by rw [List.size_toArray, len1, c, hp.len]) ?_ hs hw
      have sz : its.toArray.size = ps0.length := by rw [List.size_toArray, len1, c, ← hp.len]
      rw [← sz]
      have I1 := I.tok (s.toks + 1 + 1)
      refine unpack_list (s := { s with toks := s.toks + 1 + 1 }) (I.ok.hd hc) il fun h' tk hk => ?_
      have I2 := I1.kept (h' := h') (t' := tk) hk
      refine each_ok (ps := _) (qs := qs) (ys := ys) (s := s) hp rv c.symm _ I2 _ fun s' r I' ho => ?_
      cases of : fitP qs ys with
      | none =>
        rw [of] at ho
        obtain rfl : r = none := ho
        have q' : tCases cs0 ys D σ H := by
          have := q
          unfold tCases at this
          rw [of] at this; exact this
        exact cases_ok hc hN hl hz hr false s' I' D q'
      | some bs =>
        rw [of] at ho
        obtain ⟨a, rfl, g⟩ : ∃ a, r = some a ∧ Gets X a bs := ho
        have q' : t0 D (bindP σ bs) H := by
          have := q
          unfold tCases at this
          rw [of] at this; exact this
        exact bind_ok hN g s' σ I' _ fun s2 I2 => hb.run pins s2 _ H D I2 q'
    · refine PyProof.Rows.matchSeq_list_miss il hfit (by rw [List.size_toArray, len1, hp.len]; exact c) ?_ hs hw
      have of : fitP qs ys = none := by
        cases e : fitP qs ys with
        | none => rfl
        | some b => exact absurd (fit_len e).symm c
      have q' : tCases cs0 ys D σ H := by
        have := q
        unfold tCases at this
        rw [of] at this; exact this
      exact cases_ok hc hN hl hz hr false _ (I.tok _) D q'
theorem ps_match {e : Expr} {te : TE} {cases : List MatchCase} {cs : List (Option (List Pat1) × TS)} {pos : Pos} (hc : X.calm = true) (hN : X.N.Nodup) (he : PE X e te) (hcs : CasesOk X cases cs) : PS X (.Match e cases pos) (tMatch X.K te cs) := ⟨fun pins s σ H D I q => by
  refine wpAny_Match (thn (he.run pins s σ H _ I q) fun u s1 h => ?_)
  obtain ⟨x, H1, I1, rx, a, ys, rfl, hl, hz, q1⟩ := h
  have rx' : u = .ref a := rx
  subst rx'
  exact cases_ok hc hN hl hz hcs true s1 I1 D q1⟩
end
section
variable {K : PySem.W.Frag} {X : WX} {env : List SV} {te : TE} {t : TS} {oc : Oc} {ys : List Str} {qs : List Pat1} {bs : List (Nat × Str)} {r : List (Option (List Pat1) × TS)}
def bindE (env : List SV) : List (Nat × Str) → List SV
  | [] => env
  | (i, y) :: r => bindE (env.set i (.dat (.str y))) r
theorem Stt.bind {H H1 : Hp} : ∀ {bs : List (Nat × Str)} {σ : L2.St} {env : List SV}, Stt K H H1 σ env → Stt K H H1 (bindP σ bs) (bindE env bs) ∧ ∀ l, Ow (bindP σ bs) (bindE env bs) l → Ow σ env l
  | [], _, _, st => ⟨st, fun _ z => z⟩
  | (i, y) :: r, σ, env, st => by
    obtain ⟨h1, h2⟩ := Stt.bind (bs := r) (st.setD (i := i) (.str y))
    refine ⟨h1, fun l z => ?_⟩
    rcases Ow.set (h2 l z) with z | ⟨z, _⟩
    · exact z
    · cases z
theorem sx_match {cs : List (Option (List Pat1) × TS)} (h : Ev K te env (.list (ys.map .str))) (hz : ys.length ≤ 100000) (k : Sx K X (tCases cs ys) env oc) : Sx K X (tMatch K te cs) env oc := fun σ H H1 st D q =>
  h σ H H1 st _ fun v G H2 f dv => by
    cases dv with
    | @lst a vs _ hl hd =>
      rw [dpa_strs hd] at hl
      refine ⟨a, ys, rfl, f.r.seq hl, hz, k σ G H2 (st.mono f) D (q.tr0 f)⟩
theorem sx_hit (h : fitP qs ys = some bs) (k : Sx K X t (bindE env bs) oc) : Sx K X (tCases ((some qs, t) :: r) ys) env oc := fun σ H H1 st D q => by
  unfold tCases
  rw [h]
  obtain ⟨st2, o2⟩ := st.bind (bs := bs)
  exact k _ H H1 st2 D (q.tr (Fr.refl st.e) fun l z => .inl (o2 l z))
theorem sx_miss (h : fitP qs ys = none) (k : Sx K X (tCases r ys) env oc) : Sx K X (tCases ((some qs, t) :: r) ys) env oc := fun σ H H1 st D q => by
  have := k σ H H1 st D q
  show (match fitP qs ys with | some bs => t D (bindP σ bs) H1 | none => tCases r ys D σ H1)
  rw [h]; exact this
theorem sx_anyc (k : Sx K X t env oc) : Sx K X (tCases ((none, t) :: r) ys) env oc := k
theorem sx_nocase : Sx K X (tCases [] ys) env (.nx env) := sx_next
end
end Pf

/-! signs of texts, parts of texts -/
namespace Pf
open PySem PySem.Spec PyProof.Rows L2
def signS (c : Nat) : Str := ⟨#[c]⟩
section
variable {K : PySem.W.Frag} {X : WX} {env : List SV} {ta tb te : TE} {tt : TT} {a b : Str} {i : Int}
def rSplit : V → List V → Hp → VK → Prop := fun x xs H Q => ∃ a b, x = .str a ∧ xs = [.str b] ∧ (b.length == 0) = false ∧ a.length + 2 ≤ sizeLine ∧ rNewStrs (Txt.split a b) H Q
theorem mt_splitK {X : Cx} : MtR X "str.split" rSplit := mt_split
theorem dpa_of_strs {H : Hp} : ∀ (ns : List Str), DpAll K H (ns.map V.str) (ns.map PyData.str)
  | [] => .nil
  | n :: r => .cons (.str n) (dpa_of_strs r)
/-- a.split(b) -/
theorem eo_split (ha : Ev K ta env (.str a)) (hb : Ev K tb env (.str b)) (h0 : (b.length == 0) = false) (hz : a.length + 2 ≤ 100000) : EvO K (tM1 rSplit ta tb) env ((Txt.split a b).map .str) := fun σ H H1 st Q q =>
  ha σ H H1 st _ fun v G H2 f dv => by
    cases dv
    refine ⟨⟨a, rfl⟩, hb σ G H2 (st.mono f) _ fun v G3 H3 f3 dv => ?_⟩
    cases dv
    refine ⟨a, b, rfl, rfl, h0, sz_ok hz, fun p hp => ?_⟩
    have ff := f.tr0 f3
    have f4 : Fr0 G3 H3 G3 (upd H3 p (.lst ((Txt.split a b).map V.str))) := Fr.hid ff.r hp
    exact q p _ G3 _ (ff.tr0 f4) (ff.m _ hp) (ff.r.free hp) upd_same (dpa_of_strs _)
/-- c in z, c a sign -/
theorem ev_inSign {c : Nat} (ha : Ev K ta env (.str (signS c))) (hb : Ev K tb env (.str b)) : Ev K (tOp (fun x y H Q => ∃ (c : Nat) (z : Str), x = .str ⟨#[c]⟩ ∧ y = .str z ∧ Q (.bl (decide (c ∈ z.cps.toList))) H) ta tb) env (.bool (decide (c ∈ b.cps.toList))) :=
  ev_op ha hb fun x y H H1 Q e dx dy q => by
    cases dx; cases dy
    exact ⟨c, b, rfl, rfl, q _ H H1 (Fr.refl e) (.bl _)⟩
theorem ev_niSign {c : Nat} (ha : Ev K ta env (.str (signS c))) (hb : Ev K tb env (.str b)) : Ev K (tOp (fun x y H Q => ∃ (c : Nat) (z : Str), x = .str ⟨#[c]⟩ ∧ y = .str z ∧ Q (.bl (!decide (c ∈ z.cps.toList))) H) ta tb) env (.bool (!decide (c ∈ b.cps.toList))) :=
  ev_op ha hb fun x y H H1 Q e dx dy q => by
    cases dx; cases dy
    exact ⟨c, b, rfl, rfl, q _ H H1 (Fr.refl e) (.bl _)⟩
/-- z[i] -/
theorem ev_ixS {c : Nat} (ha : Ev K ta env (.str a)) (hb : Ev K tb env (.int i)) (hz : a.length ≤ 100000) (h : atI a.cps.toList i = some c) : Ev K (tOp rIxS ta tb) env (.str (signS c)) :=
  ev_op ha hb fun x y H H1 Q e dx dy q => by
    cases dx; cases dy
    exact ⟨a, i, c, rfl, rfl, sz_ok hz, h, q _ H H1 (Fr.refl e) (.str _)⟩
/-- z[lo:hi] -/
theorem ev_sliceS {x y : TO} {lo hi : Option Int} (h : Ev K te env (.str a)) (hx : EvP K x env lo) (hy : EvP K y env hi) (hz : a.length ≤ 100000) : Ev K (tSl rSlS te x y) env (.str (cutS a lo hi)) := fun σ H H1 st Q q =>
  h σ H H1 st _ fun v G H2 f dv => by
    cases dv
    refine hx σ G H2 (st.mono f) _ fun G3 H3 f3 => hy σ G3 H3 ((st.mono f).mono f3) _ fun G4 H4 f4 => ?_
    exact ⟨a, rfl, sz_ok hz, q _ G4 H4 ((f.tr0 f3).tr0 f4) (.str _)⟩
theorem ev_lenS (h : Ev K te env (.str a)) (hz : a.length ≤ 100000) : Ev K (tCB (fun xs H Q => ∃ z, xs = [.str z] ∧ z.length ≤ sizeLine ∧ Q (.int z.length) H) (tCons te tNil)) env (.int a.length) :=
  ev_cb (ea_cons h ea_nil) fun vs H H1 Q e dv q => by
    cases dv with
    | cons x y =>
      cases x; cases y
      exact ⟨a, rfl, sz_ok hz, q _ H H1 (Fr.refl e) (.int _)⟩
theorem ev_intS {n : Int} (h : Ev K te env (.str a)) (hn : PySem.intText? a = some n) (hz : a.length ≤ 640) : Ev K (tCB (fun xs H Q => ∃ a n, xs = [.str a] ∧ PySem.intText? a = some n ∧ a.length ≤ 640 ∧ Q (.int n) H) (tCons te tNil)) env (.int n) :=
  ev_cb (ea_cons h ea_nil) fun vs H H1 Q e dv q => by
    cases dv with
    | cons x y =>
      cases x; cases y
      exact ⟨a, n, rfl, hn, hz, q _ H H1 (Fr.refl e) (.int _)⟩
theorem ev_isdigit (h : Ev K te env (.str a)) : Ev K (tM0 (fun x xs H Q => ∃ a, x = .str a ∧ xs = [] ∧ True ∧ Q (.bl (Txt.isdigit a)) H) te) env (.bool (Txt.isdigit a)) := fun σ H H1 st Q q =>
  h σ H H1 st _ fun v G H2 f dv => by
    cases dv
    exact ⟨⟨a, rfl⟩, a, rfl, rfl, trivial, q _ G H2 f (.bl _)⟩
/-- all(a list of truth values) -/
theorem ev_all {bs : List Bool} (ha : EvL K ta env (bs.map .bool)) : Ev K (tCB (rAll K) (tCons ta tNil)) env (.bool (bs.all id)) := fun σ H H1 st Q q =>
  ha σ H H1 st _ fun p vs G H2 f h2 dv => by
    have e := dpa_bls dv
    subst e
    exact ⟨p, bs, rfl, .inl (.inl h2), q _ G H2 f (.bl _)⟩
/-- [e for c in a text if ..] -/
theorem eo_lcS {g : TG} {vs : List Nat} (f : Nat → Bool) (wd : Nat → PyData) (h : Ev K ta env (.str a)) (hz : a.length < 100000) (turn : ∀ c ∈ a.cps.toList, ∃ env', Tgw K vs g (wipeE env vs) (.str (signS c)) env' ∧ EvT K tt env' (f c) ∧ (f c = true → Ev K te env' (wd c))) :
    EvO K (tLc (iStr ta) g tt te vs) env ((a.cps.toList.filter f).map wd) := fun σ H H1 st Q q =>
  h σ H H1 st _ fun v G0 H2 f0 dv => by
    cases dv
    refine ⟨a, rfl, fun D hD => ?_⟩
    have st0 := st.mono f0
    have nD : ∀ l, Ow (L2.wipe σ vs) (wipeE env vs) l → ¬ l = D := fun l z e => (st0.owned (Ow.wipe z)).2 (by rw [e]; exact hD)
    have sz : a.cps.toList.length = a.cps.size := Array.length_toList
    refine ⟨fun n m H' => m = a.cps.size - n ∧ n ≤ a.cps.size ∧ Mk K G0 H2 D (((a.cps.toList.take n).filter f).map wd) H', ⟨a.cps.size, rfl, Nat.zero_le _, mk_start f0.r hD⟩, ?_⟩
    rintro n m H' ⟨rfl, hn, G, ac, f1, hG, hac, da⟩
    by_cases hlt : n < a.cps.size
    · refine .inr ⟨hlt, fun H' => Mk K G0 H2 D (((a.cps.toList.take (n + 1)).filter f).map wd) H', fun Hx p => ⟨a.cps.size - (n + 1), by omega, rfl, hlt, p⟩, fun x Hx y => ?_⟩
      obtain ⟨rfl, c, hc, rfl⟩ := y
      rw [← Array.getElem?_toList] at hc
      obtain ⟨env', tg, ht, hx⟩ := turn c (List.mem_of_getElem? hc)
      refine tg _ G Hx (.str ⟨#[c]⟩) ((st0.wipe vs).monoW f1 nD) (.str _) _ fun σ' st' o hw => ⟨?_, ?_⟩
      · rw [hw]; exact wipe_wipe fun _ z => z
      · rw [filter_next hc]
        exact mk_turn f1 hG hac da (take_short (by rw [sz]; exact hz)) st' ht hx
    · obtain rfl : n = a.cps.size := by omega
      refine .inl ⟨Nat.le_refl _, ?_⟩
      rw [← sz, List.take_length] at da
      have ff : Fr0 H H1 G H' := f0.trans f1 fun p z => .inr (by rw [z]; exact f0.a.free hD)
      exact q D ac G H' ff (f0.a.free hD) hG hac da
end
end Pf

/-! a def that puts to two lists of its caller -/
namespace Pf
open PySem PySem.Spec PyProof.Rows L2
section
variable {K : PySem.W.Frag} {X : WX} {env : List SV} {ta tb te : TE} {xs ys ds : List PyData} {d : PyData} {c : Value} {i j : Nat} {H H1 : Hp} {σ : L2.St}
/-- an argument of a list's method raises -/
theorem evx_bm {r : V → List V → Hp → VK → Prop} {aa : TA} {l : Addr} (h : env[i]? = some (.ownA l xs)) (ha : EvXA K X aa env c) : EvX K X (tBM K "list" r (tVar i) aa) env c := fun σ H H1 st Q q => by
  obtain ⟨o, a, rfl, vs, b, cc, dv⟩ := st.get h
  exact ⟨_, a, .inl ⟨rfl, _, .inl (.inl cc)⟩, ha σ H H1 st _ q⟩
def spRow (K : PySem.W.Frag) (R : List PyData → List PyData × List PyData → List PyData × List PyData → Prop) (B : List PyData → Value → Prop) : Sp := fun vs H1 Q E => ∃ (H : Hp) (v : V) (l1 l2 : Addr) (ws ds ks : List PyData) (v1 v2 : List V), vs = [v, .ref l1, .ref l2] ∧ l1 ≠ l2 ∧ Same H H1 ∧ Dp K H v (.list ws) ∧ H l1 = none ∧ H l2 = none ∧ H1 l1 = some (.lst v1) ∧ H1 l2 = some (.lst v2) ∧ DpAll K H v1 ds ∧ DpAll K H v2 ks ∧
  ((∃ o, R ws (ds, ks) o ∧ ∀ G H2 w1 w2, Fr (fun p => p = l1 ∨ p = l2) H H1 G H2 → G l1 = none → G l2 = none → H2 l1 = some (.lst w1) → H2 l2 = some (.lst w2) → DpAll K G w1 o.1 → DpAll K G w2 o.2 → Q .non H2) ∨ ∃ c, B ws c ∧ ∀ G H2, Fr (fun p => p = l1 ∨ p = l2) H H1 G H2 → E c none H2)
theorem stt_row {H H1 : Hp} {v : V} {l1 l2 : Addr} {ws ds ks : List PyData} {v1 v2 : List V} {N : List Str} {n : Nat} (h12 : l1 ≠ l2) (e : Same H H1) (dv : Dp K H v (.list ws)) (n1 : H l1 = none) (n2 : H l2 = none) (s1 : H1 l1 = some (.lst v1)) (s2 : H1 l2 = some (.lst v2)) (d1 : DpAll K H v1 ds) (d2 : DpAll K H v2 ks) (hn : N.length - 3 = n) :
    Stt K H H1 (L2.start N [v, .ref l1, .ref l2]) (.dat (.list ws) :: .ownA l1 ds :: .ownA l2 ks :: List.replicate n .no) ∧ ∀ p, Ow (L2.start N [v, .ref l1, .ref l2]) (.dat (.list ws) :: .ownA l1 ds :: .ownA l2 ks :: List.replicate n .no) p → p = l1 ∨ p = l2 := by
  have es : L2.start N [v, .ref l1, .ref l2] = some v :: some (.ref l1) :: some (.ref l2) :: List.replicate n none := by
    unfold L2.start
    rw [← hn]; rfl
  rw [es]
  have tailE : ∀ (m : Nat) (s : SV), (List.replicate n SV.no)[m]? = some s → s = .no := fun m s z => by
    obtain ⟨hz, e⟩ := List.getElem?_eq_some_iff.mp z
    rw [List.getElem_replicate] at e; exact e.symm
  refine ⟨⟨e, by simp, fun m o s a b => ?_, fun m k s t l mk b1 b2 o1 o2 a1 => ?_⟩, fun p w => ?_⟩
  · match m, a, b with
    | 0, a, b => cases a; cases b; exact ⟨v, rfl, dv⟩
    | 1, a, b => cases a; cases b; exact ⟨rfl, v1, n1, s1, d1⟩
    | 2, a, b => cases a; cases b; exact ⟨rfl, v2, n2, s2, d2⟩
    | m + 3, a, b => rw [tailE m s b]; trivial
  · match m, k, b1, b2, a1 with
    | 0, _, b1, _, _ => cases b1; cases o1
    | _, 0, _, b2, _ => cases b2; cases o2
    | m + 3, _, b1, _, _ => rw [tailE m s b1] at o1; cases o1
    | _, k + 3, _, b2, _ => rw [tailE k t b2] at o2; cases o2
    | 1, 1, _, _, _ => exact absurd rfl mk
    | 2, 2, _, _, _ => exact absurd rfl mk
    | 1, 2, _, _, a1 => cases a1; exact fun z => h12 (by injection z with z; injection z with z; injection z with z; exact z.symm)
    | 2, 1, _, _, a1 => cases a1; exact fun z => h12 (by injection z with z; injection z with z; injection z)
  · obtain ⟨m, s, b, o, a⟩ := w
    match m, b, a with
    | 0, b, _ => cases b; cases o
    | 1, _, a => cases a; exact .inl rfl
    | 2, _, a => cases a; exact .inr rfl
    | m + 3, b, _ => rw [tailE m s b] at o; cases o
variable {R : List PyData → List PyData × List PyData → List PyData × List PyData → Prop} {B : List PyData → Value → Prop} {ws ks : List PyData}
theorem row_call {E : L2.St → XK} (hw : env[i]? = some (.dat (.list ws))) {a b : Nat} (ha : env[a]? = some (.own ds)) (hb : env[b]? = some (.own ks)) (ab : a ≠ b) (st : Stt K H H1 σ env) :
    ∃ v l1 l2 v1 v2, σ[i]? = some (some v) ∧ σ[a]? = some (some (.ref l1)) ∧ σ[b]? = some (some (.ref l2)) ∧ l1 ≠ l2 ∧ Dp K H v (.list ws) ∧ H l1 = none ∧ H l2 = none ∧ H1 l1 = some (.lst v1) ∧ H1 l2 = some (.lst v2) ∧ DpAll K H v1 ds ∧ DpAll K H v2 ks := by
  obtain ⟨v, e1, dv⟩ := st.dat hw
  obtain ⟨l1, v1, e2, n1, s1, d1⟩ := st.own ha
  obtain ⟨l2, v2, e3, n2, s2, d2⟩ := st.own hb
  refine ⟨v, l1, l2, v1, v2, e1, e2, e3, fun z => ?_, dv, n1, n2, s1, s2, d1, d2⟩
  subst z
  exact st.ne a b _ _ l1 ab ha hb rfl rfl e2 e3
/-- f(words, list, list): both lists are told anew -/
theorem sx_row {E : L2.St → XK} {o : List PyData × List PyData} (hw : env[i]? = some (.dat (.list ws))) {a b : Nat} (ha : env[a]? = some (.own ds)) (hb : env[b]? = some (.own ks)) (ab : a ≠ b) (hr : R ws (ds, ks) o) :
    Sx K X (tDrop (tCallS (spRow K R B) E (tCons (tVar i) (tCons (tVar a) (tCons (tVar b) tNil))))) env (.nx ((env.set a (.own o.1)).set b (.own o.2))) := fun σ H H1 st D q => by
  obtain ⟨v, l1, l2, v1, v2, e1, e2, e3, h12, dv, n1, n2, s1, s2, d1, d2⟩ := row_call (E := E) hw ha hb ab st
  refine ⟨_, e1, _, e2, _, e3, H, v, l1, l2, ws, ds, ks, v1, v2, rfl, h12, st.e, dv, n1, n2, s1, s2, d1, d2, .inl ⟨o, hr, fun G H2 w1 w2 f g1 g2 t1 t2 x1 x2 => ?_⟩⟩
  have ai : a < env.length := (List.getElem?_eq_some_iff.mp ha).1
  have bi : b < env.length := (List.getElem?_eq_some_iff.mp hb).1
  have own1 : Ow σ env l1 := ⟨a, _, ha, rfl, e2⟩
  have own2 : Ow σ env l2 := ⟨b, _, hb, rfl, e3⟩
  have f' : Fr (Ow σ env) H H1 G H2 := f.mono fun p z => z.elim (fun z => z ▸ own1) fun z => z ▸ own2
  -- the others stay
  have st0 : Stt K H H1 σ ((env.set a .no).set b .no) := by
    have z1 := st.re (i := a) (s' := .no) ha (fun _ _ _ => trivial) fun z => nomatch z
    exact z1.re (i := b) (s := .own ks) (s' := .no) (by rw [List.getElem?_set_ne ab]; exact hb) (fun _ _ _ => trivial) fun z => nomatch z
  have owo : ∀ p, Ow σ ((env.set a .no).set b .no) p → Ow σ env p ∧ p ≠ l1 ∧ p ≠ l2 := fun p w => by
    obtain ⟨m, s, b1, o1, a1⟩ := w
    have mb : m ≠ b := fun z => by
      subst z
      rw [List.getElem?_set_self (by rw [List.length_set]; exact bi)] at b1; cases b1; cases o1
    rw [List.getElem?_set_ne (Ne.symm mb)] at b1
    have ma : m ≠ a := fun z => by
      subst z
      rw [List.getElem?_set_self ai] at b1; cases b1; cases o1
    rw [List.getElem?_set_ne (Ne.symm ma)] at b1
    refine ⟨⟨m, s, b1, o1, a1⟩, fun z => ?_, fun z => ?_⟩
    · subst z; exact st.ne a m _ _ _ (Ne.symm ma) ha b1 rfl o1 e2 a1
    · subst z; exact st.ne b m _ _ _ (Ne.symm mb) hb b1 rfl o1 e3 a1
  have st1 := st0.monoW f fun p w z => z.elim (owo p w).2.1 (owo p w).2.2
  have st2 := st1.setO (i := a) (s₀ := .own o.1) (p := l1) ⟨l1, w1, rfl, g1, t1, x1⟩ fun m s b1 o1 _ z => (owo l1 ⟨m, s, b1, o1, z⟩).2.1 rfl
  have ea : σ.set a (some (.ref l1)) = σ := by
    refine List.ext_getElem? fun m => ?_
    by_cases c : a = m
    · subst c; rw [List.getElem?_set_self (List.getElem?_eq_some_iff.mp e2).1, e2]
    · rw [List.getElem?_set_ne c]
  have eb : σ.set b (some (.ref l2)) = σ := by
    refine List.ext_getElem? fun m => ?_
    by_cases c : b = m
    · subst c; rw [List.getElem?_set_self (List.getElem?_eq_some_iff.mp e3).1, e3]
    · rw [List.getElem?_set_ne c]
  rw [ea] at st2
  have st3 := st2.setO (i := b) (s₀ := .own o.2) (p := l2) ⟨l2, w2, rfl, g2, t2, x2⟩ fun m s b1 o1 mb z => by
    by_cases c : a = m
    · subst c; rw [e2] at z; injection z with z; injection z with z; injection z with z; exact h12 z
    · rw [List.getElem?_set_ne c] at b1
      exact (owo l2 ⟨m, s, b1, o1, z⟩).2.2 rfl
  rw [eb] at st3
  have ee : ((((env.set a .no).set b .no).set a (.own o.1)).set b (.own o.2)) = (env.set a (.own o.1)).set b (.own o.2) := by
    rw [List.set_comm _ _ (Ne.symm ab), List.set_set, List.set_set]
  rw [ee] at st3
  refine q σ G H2 f' st3 fun p w => .inl ?_
  obtain ⟨m, s, b1, o1, a1⟩ := w
  by_cases mb : b = m
  · subst mb; rw [e3] at a1; injection a1 with a1; injection a1 with a1; injection a1 with a1; exact a1 ▸ own2
  · rw [List.getElem?_set_ne mb] at b1
    by_cases ma : a = m
    · subst ma; rw [e2] at a1; injection a1 with a1; injection a1 with a1; injection a1 with a1; exact a1 ▸ own1
    · rw [List.getElem?_set_ne ma] at b1
      exact ⟨m, s, b1, o1, a1⟩
/-- .. raises -/
theorem sx_rowX (hw : env[i]? = some (.dat (.list ws))) {a b : Nat} (ha : env[a]? = some (.own ds)) (hb : env[b]? = some (.own ks)) (ab : a ≠ b) (hr : B ws c) :
    Sx K X (tDrop (tCallS (spRow K R B) (WE X) (tCons (tVar i) (tCons (tVar a) (tCons (tVar b) tNil))))) env (.ex c ((env.set a .no).set b .no)) := fun σ H H1 st D q => by
  obtain ⟨v, l1, l2, v1, v2, e1, e2, e3, h12, dv, n1, n2, s1, s2, d1, d2⟩ := row_call (E := WE X) hw ha hb ab st
  refine ⟨_, e1, _, e2, _, e3, H, v, l1, l2, ws, ds, ks, v1, v2, rfl, h12, st.e, dv, n1, n2, s1, s2, d1, d2, .inr ⟨c, hr, fun G H2 f => ?_⟩⟩
  have ai : a < env.length := (List.getElem?_eq_some_iff.mp ha).1
  have bi : b < env.length := (List.getElem?_eq_some_iff.mp hb).1
  have own1 : Ow σ env l1 := ⟨a, _, ha, rfl, e2⟩
  have own2 : Ow σ env l2 := ⟨b, _, hb, rfl, e3⟩
  have st0 : Stt K H H1 σ ((env.set a .no).set b .no) := by
    have z1 := st.re (i := a) (s' := .no) ha (fun _ _ _ => trivial) fun z => nomatch z
    exact z1.re (i := b) (s := .own ks) (s' := .no) (by rw [List.getElem?_set_ne ab]; exact hb) (fun _ _ _ => trivial) fun z => nomatch z
  have owo : ∀ p, Ow σ ((env.set a .no).set b .no) p → Ow σ env p ∧ p ≠ l1 ∧ p ≠ l2 := fun p w => by
    obtain ⟨m, s, b1, o1, a1⟩ := w
    have mb : m ≠ b := fun z => by
      subst z
      rw [List.getElem?_set_self (by rw [List.length_set]; exact bi)] at b1; cases b1; cases o1
    rw [List.getElem?_set_ne (Ne.symm mb)] at b1
    have ma : m ≠ a := fun z => by
      subst z
      rw [List.getElem?_set_self ai] at b1; cases b1; cases o1
    rw [List.getElem?_set_ne (Ne.symm ma)] at b1
    refine ⟨⟨m, s, b1, o1, a1⟩, fun z => ?_, fun z => ?_⟩
    · subst z; exact st.ne a m _ _ _ (Ne.symm ma) ha b1 rfl o1 e2 a1
    · subst z; exact st.ne b m _ _ _ (Ne.symm mb) hb b1 rfl o1 e3 a1
  have st1 := st0.monoW f fun p w z => z.elim (owo p w).2.1 (owo p w).2.2
  exact q σ G H2 (f.mono fun p z => z.elim (fun z => z ▸ own1) fun z => z ▸ own2) st1 fun p w => .inl (owo p w).1
end
/-- len of a list or tuple -/
def rLenSq (K : PySem.W.Frag) : List V → Hp → VK → Prop := fun xs H Q => ∃ p ys, xs = [.ref p] ∧ (SqL K H p ys ∨ SqT K H p ys) ∧ Q (.int ys.length) H
end Pf

/-! lists that stay, put together -/
namespace Pf
open PySem PySem.Spec PyProof.Rows L2
def rCatL (K : PySem.W.Frag) : R2 := fun x y H Q => ∃ l b xs zs, x = .ref l ∧ y = .ref b ∧ SqL K H l xs ∧ SqL K H b zs ∧ xs.length + zs.length ≤ sizeLine ∧ ∀ p, H p = none → Q (.ref p) (upd H p (.lst (xs ++ zs)))
theorem op_catL {X : Cx} : OpR X (binaryOp .Add) (rCatL X.K) := by
  intro pins s σ H x y v u Q I rx ry h
  obtain ⟨l, b, xs, zs, rfl, rfl, hH, hB, hz, q⟩ := h
  cases rx
  cases ry
  obtain ⟨its, r, p1, _⟩ := I.list hH
  obtain ⟨its2, r2, p2, _⟩ := I.list hB
  have i1 := p1.isList
  have i2 := p2.isList
  obtain ⟨⟨cls, dd, data, sl⟩, ho, hc, n, hd⟩ := i1
  obtain ⟨⟨cls2, dd2, data2, sl2⟩, ho2, hc2, n2, hd2⟩ := i2
  simp only at hc hd hc2 hd2
  subst hc hd hc2 hd2
  have e : its.toArray ++ its2.toArray = (its ++ its2).toArray := by simp
  have l1 := r.length
  have l2 := r2.length
  refine concat_meets ⟨_, ho, rfl⟩ ⟨_, ho2, rfl⟩ noFill_list_add seq_list_add PySem.F.slot_list_add PySem.F.entry_list_add (PySem.F.args_list_add_2 _ _) (list_addW l b its.toArray its2.toArray n n2 dd dd2 sl sl2 (by rw [List.size_toArray, List.size_toArray]; omega)) ⟨ho, ho2, ?_⟩
  rw [e]
  exact ⟨.ref _, _, I.lnew (t' := s.toks) (r.append r2) (by rw [List.length_append]; omega), rfl, q _ I.fresh⟩
section
variable {K : PySem.W.Frag} {X : WX} {env : List SV} {ta tb te : TE} {xs ys ds : List PyData}
theorem eo_catD (ha : Ev K ta env (.list xs)) (hb : Ev K tb env (.list ys)) (hl : xs.length + ys.length ≤ 100000) : EvO K (tOp (rCatL K) ta tb) env (xs ++ ys) := fun σ H H1 st Q q =>
  ha σ H H1 st _ fun v G H2 f dv => hb σ G H2 (st.mono f) _ fun v2 G3 H3 f3 dv2 => by
    cases dv with
    | @lst p vs _ h2 d1 =>
      cases dv2 with
      | @lst p2 vs2 _ h3 d2 =>
        refine ⟨p, p2, vs, vs2, rfl, rfl, (f3.g.trans f3.r).seq h2, f3.r.seq h3, sz_ok (by rw [dpa_len d1, dpa_len d2]; exact hl), fun p4 h4 => ?_⟩
        have n : Fr0 G3 H3 G3 (upd H3 p4 (.lst (vs ++ vs2))) := Fr.hid f3.r h4
        exact q p4 _ G3 _ ((f.tr0 f3).tr0 n) ((f.tr0 f3).a.free h4) (f3.r.free h4) upd_same (dpa_app (dms f3.g d1) d2)
end
end Pf

/-! sets of keys in the layer's words -/
namespace Pf
open PySem PySem.Spec PyProof.Rows L2
section
variable {P : Program} {w : World} {A : Around} {E : Value → Shared → Prop} {s : Shared} {a : Addr} {L : List Row} {es : Array (Int × Value)} {ep : Nat} {t : SetTable} {h : Heap}
theorem in_key (R : KSet w s.heap a L es ep t) (ok : ∀ p ∈ L, KeyAt s.heap p.2 p.1) {x : Addr} {k : NestedKey} (hx : KeyAt s.heap k x) (hu : A.units + 9 < cLine) {Q : Bool → Shared → Prop}
    (q : ∀ tk, Q (decide (k ∈ L.map (·.2))) { s with toks := tk }) : wpAny (model P w) A (contains (.ref a) (.ref x)) Q E s := by
  unfold contains
  try with_reducible refine wpAny_holding ?_
  refine wpAny_bind (wpAny_specialOf R.ty F.slot_set_contains.lookup ?_)
  show wpAny _ _ (if (some (Value.builtin "set.__contains__") == some Value.none) = true then _ else _) _ E s
  rw [if_neg (by rw [beq_builtin_none]; exact Bool.false_ne_true)]
  refine wpAny_bind (wpAny_callSpecialUnlessNone?_slot (name := Str.ofString "__contains__") R.ty F.slot_set_contains
    (wpAny_call_entry F.slot_set_contains R.ty entry_set_contains ?_ (F.args_set_contains_2 _ _)))
  unfold Builtin.«frozenset.__contains__» Builtin.Frozenset.oneOther
  simp only [List.isEmpty_nil, bind_assoc]
  unfold Builtin.Frozenset.addrOf Builtin.Frozenset.withSetAsKey
  refine wpAny_bind (wpAny_pure ?_)
  try dsimp only
  refine wpAny_bind (wpAny_pure ?_)
  try dsimp only
  refine wpAny_bind (wpAny_tryCatch ?_)
  have hu1 : A.in1.units + 8 < cLine := by rw [Around.in1_units]; omega
  refine has_key R ok hx hu1 fun tk => ?_
  show wpAny _ _ (ret (Value.bool _)) _ _ _
  exact wpAny_pure ⟨_, rfl, wpAny_truthy_bool (q tk)⟩
theorem perm_out {α β : Type} {f : α → β} {vs ws : List β} (h : vs.Perm ws) : ∀ L : List α, ws = L.map f → ∃ M : List α, vs = M.map f ∧ M.Perm L := by
  induction h with
  | nil => intro L e; exact ⟨[], rfl, by rw [List.map_eq_nil_iff.mp e.symm]⟩
  | @cons x l1 l2 _ ih =>
    intro L e
    cases L with
    | nil => cases e
    | cons y L =>
      rw [List.map_cons] at e
      injection e with e1 e2
      obtain ⟨M, m1, m2⟩ := ih L e2
      exact ⟨y :: M, by rw [List.map_cons, ← m1, e1], m2.cons y⟩
  | @swap x y l =>
    intro L e
    cases L with
    | nil => cases e
    | cons p L =>
      cases L with
      | nil => cases e
      | cons q L =>
        rw [List.map_cons, List.map_cons] at e
        injection e with e1 e2
        injection e2 with e2 e3
        exact ⟨q :: p :: L, by rw [List.map_cons, List.map_cons, ← e1, ← e2, ← e3], .swap p q L⟩
  | trans _ _ i1 i2 =>
    intro L e
    obtain ⟨M, m1, m2⟩ := i2 L e
    obtain ⟨N, n1, n2⟩ := i1 M m1
    exact ⟨N, n1, n2.trans m2⟩
theorem each_rows : ∀ M : List Row, PySem.W.EachIs (fun (v : Value) (p : Row) => v = Value.ref p.1) (M.map fun p => Value.ref p.1) M
  | [] => .nil
  | p :: M => .cons rfl (each_rows M)
theorem rows_each : ∀ {out : List Value} {M : List Row}, PySem.W.EachIs (fun (v : Value) (p : Row) => v = Value.ref p.1) out M → out = M.map fun p => Value.ref p.1
  | _, _, .nil => rfl
  | _, _, .cons a b => by rw [a, rows_each b]; rfl
/-- sorted(a set of keys) -/
theorem sorted_keys (R : KSet w s.heap a L es ep t) (hh : A.handled = none) (rd : ∀ p ∈ L, Reads s.heap (.ref p.1) p.2.data []) (al : PySem.W.AllAlike (L.map fun p => p.2.data)) (so : PySem.W.Sortable (L.map fun p => p.2.data)) (hu : ∀ p ∈ L, A.units + 2 + p.2.data.depth < cLine) {Q : Value → Shared → Prop}
    (q : ∀ s' p (out : Array Value) (c : Nat) (M : List Row), (∀ b o, s.heap.get? b = some o → s'.heap.get? b = some o) → s'.gens = s.gens → s'.os = s.os → s.heap.objs.size ≤ p → s'.heap.get? p = some (seqObj "list" out c) → out.toList = (M.mergeSort (PySem.W.dataLe false fun r : Row => r.2.data)).map (fun r => Value.ref r.1) → M.Perm L → Q (.ref p) s') : wpAny (model P w) A (call (.builtin "sorted") [.ref a]) Q E s := by
  obtain ⟨o, ho, hex, hd⟩ := R.ob
  have len := R.len
  have few := R.few
  have line : 10000 ≤ sizeLine := by decide
  refine Calls.call_function_entry kind_sorted plain_sorted entry_sorted (args_sorted1 _) ?_
  unfold Builtin.«sorted»
  refine wpAny_bind (m := checkCount "sorted" 1 1 _) (wpAny_pure ?_)
  refine wpAny_bind (collect_set (A := A.in1) hh ⟨o, ho, hex.1, hd⟩ R.fit (by unfold scanBound; omega) R.tab.up R.led fun s1 vs k1 z1 g1 o1 pm => ?_)
  have e0 : es.toList.map (·.2) = L.map fun p => Value.ref p.1 := by rw [R.rows, ents, List.map_map]; rfl
  rw [e0] at pm
  obtain ⟨M, rfl, pM⟩ := perm_out pm L rfl
  have lenM := pM.length_eq
  refine wpAny_bind (wpAny_newList ?_ (by rw [List.length_map]; omega))
  have hoL : (s1.heap.push (seqObj "list" (M.map fun p => Value.ref p.1).toArray 0)).get? s1.heap.objs.size = some (seqObj "list" (M.map fun p => Value.ref p.1).toArray 0) := Heap.get?_push_size _ rfl
  have reads : ∀ N : List Row, (∀ p ∈ N, p ∈ L) → PySem.W.EachIs (fun (v : Value) (p : Row) => ∃ as, Reads (s1.heap.push (seqObj "list" (M.map fun p => Value.ref p.1).toArray 0)) v p.2.data as ∧ s1.heap.objs.size ∉ as) (N.map fun p => Value.ref p.1) N := by
    intro N
    induction N with
    | nil => exact fun _ => .nil
    | cons p N ih =>
      intro all
      refine .cons ⟨[], PyProof.Rows.Reads.keeps (fun b o e => Heap.get?_push_of_some _ (k1 b o e)) (rd p (all p List.mem_cons_self)), List.not_mem_nil⟩ (ih fun q hq => all q (List.mem_cons_of_mem _ hq))
  have alM : PySem.W.AllAlike (M.map fun p => p.2.data) := fun d hd d' hd' => al d ((pM.map _).mem_iff.mp hd) d' ((pM.map _).mem_iff.mp hd')
  have soM : PySem.W.Sortable (M.map fun p => p.2.data) := so.imp (fun h d hd => h d ((pM.map _).mem_iff.mp hd)) fun h d hd => h d ((pM.map _).mem_iff.mp hd)
  refine wpAny_bind (wpAny_holding (PySem.W.list_sort_data (s := { s1 with heap := s1.heap.push (seqObj "list" (M.map fun p => Value.ref p.1).toArray 0) }) (enc := fun p : Row => p.2.data) hoL (each_rows M) (reads M fun p hp => pM.mem_iff.mp hp) alM soM (by omega) (fun p hp => ?_) fun out lo eo => ?_))
  · have := hu p (pM.mem_iff.mp hp)
    rw [Around.in1_units]; omega
  · obtain ⟨c, hc⟩ := sortedHeap_at (vs := M.map fun p => Value.ref p.1) (out := out.toArray) hoL
    refine wpAny_pure ⟨_, rfl, q _ s1.heap.objs.size out.toArray c M (fun b u e => ?_) g1 o1 z1 hc (rows_each eo) pM⟩
    have e1 := k1 b u e
    have lt := Heap.lt_size e1
    show (sortedHeap (s1.heap.push (seqObj "list" (M.map fun p => Value.ref p.1).toArray 0)) s1.heap.objs.size (M.map fun p => Value.ref p.1) out.toArray).get? b = some u
    rw [sortedHeap_old (Nat.ne_of_lt lt) (by rw [size_push']; exact Nat.lt_succ_of_lt lt)]
    exact Heap.get?_push_of_some _ e1
end
section
variable {X : Cx} {pins : List (Addr × Obj)} {σ : L2.St} {H : Hp} {s : Shared} {D a : Addr} {L : List Row} {k : NestedKey}
theorem ks_ok {P : Program} {w : World} {H : Hp} {h : Heap} {D : Addr} {L : List Row} (d : KSX w D L h) : ObjOk P w H h D (.ext (KSX w D L)) := by
  refine ⟨d, ?_, fun h1 h2 d k => ?_⟩
  · obtain ⟨es, ep, t, R⟩ := d
    obtain ⟨o, e, _⟩ := R.ob
    exact ⟨o, e⟩
  · obtain ⟨es, ep, t, R⟩ := d
    exact ⟨es, ep, t, R.keep k⟩
mutual
/-- what is known as a key of numbers reads as its data -/
theorem nest_reads (I : L2.Inv X pins σ H s) : ∀ (k : NestedKey) {v : V} {u : Value}, nk k = true → Dp X.K H v k.data → L2.RelV v u → Reads s.heap u k.data []
  | .none, v, u, n, d, r => by rw [nk] at n; cases n
  | .text _, v, u, n, d, r => by rw [nk] at n; cases n
  | .num i, v, u, n, d, r => by
    rw [NestedKey.data] at d ⊢; cases d
    obtain ⟨t, rfl⟩ := r
    exact .int i t
  | .tup ks, v, u, n, d, r => by
    rw [NestedKey.data] at d ⊢
    rw [nk] at n
    cases d with
    | tup ht hd =>
      have r' : u = .ref _ := r
      subst r'
      obtain ⟨its, rv, ⟨o, e1, e2, m, e3⟩, _⟩ := I.tuple ht
      exact .tuple e1 e2 e3 (nest_readsAll I ks n hd (by simpa using rv))
theorem nest_readsAll (I : L2.Inv X pins σ H s) : ∀ (ks : List NestedKey) {vs : List V} {us : List Value}, nks ks = true → DpAll X.K H vs (NestedKey.datas ks) → Vals vs us → ReadsAll s.heap us (NestedKey.datas ks) []
  | [], vs, us, n, d, r => by
    rw [NestedKey.datas] at d ⊢; cases d; cases r; exact .nil
  | k :: ks, vs, us, n, d, r => by
    rw [NestedKey.datas] at d ⊢
    rw [nks, Bool.and_eq_true] at n
    cases d with
    | cons a b =>
      cases r with
      | cons e f => exact ReadsAll.cons (as := []) (bs := []) (nest_reads I k n.1 a e) (nest_readsAll I ks n.2 b f)
end
theorem KeyIn.at (I : L2.Inv X pins σ H s) (h : KeyIn X.K H a k) (n : nk k = true) : KeyAt s.heap k a := ⟨⟨nest_is I k h.1 rfl, h.2⟩, n⟩
/-- known keys of numbers -/
def KeysIn (K : PySem.W.Frag) (H : Hp) (L : List Row) : Prop := ∀ p ∈ L, KeyIn K H p.1 p.2 ∧ nk p.2 = true
theorem KSX.get (I : L2.Inv X pins σ H s) (h : H D = some (.ext (KSX X.w D L))) (hk : KeysIn X.K H L) : ∃ es ep t, KSet X.w s.heap D L es ep t ∧ ∀ p ∈ L, KeyAt s.heap p.2 p.1 := by
  obtain ⟨es, ep, t, R⟩ := (I.hok D _ h).1
  exact ⟨es, ep, t, R, fun p hp => (hk p hp).1.at I (hk p hp).2⟩
def rInS (w : World) (K : PySem.W.Frag) (neg : Bool) : R2 := fun x y H Q => ∃ a D L k, x = .ref a ∧ y = .ref D ∧ H D = some (.ext (KSX w D L)) ∧ KeyIn K H a k ∧ nk k = true ∧ KeysIn K H L ∧ Q (.bl (if neg then !decide (k ∈ L.map (·.2)) else decide (k ∈ L.map (·.2)))) H
theorem op_inS (hr : X.A.units + 65 < cLine) : OpR X (compareOp .In) (rInS X.w X.K false) := by
  intro pins s σ H x y v u Q I rx ry h
  obtain ⟨a, D, L, k, rfl, rfl, hD, hk, hn, hL, q⟩ := h
  have r1 : v = .ref a := rx
  have r2 : u = .ref D := ry
  subst r1 r2
  obtain ⟨es, ep, t, R, ok⟩ := KSX.get I hD hL
  show wpAny _ _ (contains (.ref D) (.ref a) >>= fun b => pure (Value.bool b)) _ _ s
  exact wpAny_bind (in_key R ok (hk.at I hn) (by omega) fun tk => wpAny_pure ⟨.bl _, H, I.tok _, rfl, q⟩)
theorem op_notInS (hr : X.A.units + 65 < cLine) : OpR X (compareOp .NotIn) (rInS X.w X.K true) := by
  intro pins s σ H x y v u Q I rx ry h
  obtain ⟨a, D, L, k, rfl, rfl, hD, hk, hn, hL, q⟩ := h
  have r1 : v = .ref a := rx
  have r2 : u = .ref D := ry
  subst r1 r2
  obtain ⟨es, ep, t, R, ok⟩ := KSX.get I hD hL
  show wpAny _ _ (contains (.ref D) (.ref a) >>= fun b => pure (Value.bool (!b))) _ _ s
  exact wpAny_bind (in_key R ok (hk.at I hn) (by omega) fun tk => wpAny_pure ⟨.bl _, H, I.tok _, rfl, q⟩)
theorem kset_new {w : World} {h : Heap} {a : Addr} (ho : h.get? a = some { cls := .type "set", dict := none, data := .set #[] 0 (.fresh 0 0 (!w.params.followText "set-order")) }) : KSX w a [] h := by
  refine ⟨#[], 0, _, ⟨⟨_, ho, ⟨rfl, rfl, rfl⟩, rfl⟩, rfl, ⟨List.Pairwise.nil, rfl, rfl, ⟨3, by decide, by decide, by decide, rfl⟩, fun x hx => (by cases hx), fun i h j hi => (by simp at hi)⟩, List.nodup_nil, rfl, ?_, by show 0 * 5 < 7 * 3; decide, by show 0 < 4000; decide⟩⟩
  show _ ∨ (!w.params.followText "set-order") = true
  cases w.params.followText "set-order" <;> simp
/-- set() -/
def rNewS (w : World) : List V → Hp → VK → Prop := fun vs H Q => vs = [] ∧ ∀ p : Addr, H p = none → Q (.ref p) (upd H p (.ext (KSX w p [])))
theorem cr_newS : CallR X (.type "set") (rNewS X.w) := by
  intro pins s σ H vs us Q I r h
  obtain ⟨rfl, q⟩ := h
  cases r
  refine setR_new fun _ => ?_
  exact ⟨.ref _, _, I.laid (t' := s.toks) (fun b u e => Heap.get?_push_of_some _ e) (Nat.le_refl _) (ks_ok (kset_new (Heap.get?_push_size _ rfl))), rfl, q _ (I.hok.fresh (Nat.le_refl _))⟩
/-- d.add(k) -/
def rAddS (w : World) (K : PySem.W.Frag) : V → List V → Hp → VK → Prop := fun x vs H Q => ∃ a D L k, x = .ref D ∧ vs = [.ref a] ∧ H D = some (.ext (KSX w D L)) ∧ KeyIn K H a k ∧ nk k = true ∧ KeysIn K H L ∧ L.length + 1 < 4000 ∧ ∀ L', Added L a k L' → Q .non (upd H D (.ext (KSX w D L')))
theorem add_s (hr : X.A.units + 65 < cLine) {E : Value → Shared → Prop} {Q : Value → Shared → Prop} (I : L2.Inv X pins σ H s) (hD : H D = some (.ext (KSX X.w D L))) (hk : KeyIn X.K H a k) (hn : nk k = true) (hL : KeysIn X.K H L) (few : L.length + 1 < 4000)
    (q : ∀ s' L', L2.Inv X pins σ (upd H D (.ext (KSX X.w D L'))) s' → Added L a k L' → Q .none s') : wpAny (model X.prog X.w) X.A (call (.builtin "set.add") [.ref D, .ref a]) Q E s := by
  obtain ⟨es, ep, t, R, ok⟩ := KSX.get I hD hL
  refine add_call R ok (hk.at I hn) (by omega) few fun h' tk L' es' ep' t' sb R' ad => ?_
  obtain ⟨o, eo, _⟩ := R'.ob
  exact q _ L' (I.write (e := D) (t' := tk) (by rw [hD]; trivial) (.inl rfl) (fun b u nb e => (sb.2 b nb).trans e) ⟨o, eo⟩ (ks_ok ⟨es', ep', t', R'⟩)) ad
theorem mt_addS (hr : X.A.units + 65 < cLine) : MtR X "set.add" (rAddS X.w X.K) := by
  intro pins s σ H x vs v us Q I rx rvs h
  obtain ⟨a, D, L, k, rfl, rfl, hD, hk, hn, hL, few, q⟩ := h
  have r1 : v = .ref D := rx
  subst r1
  rw [Vals.ref1 rvs]
  exact add_s hr I hD hk hn hL few fun s' L' I' ad => ⟨.non, _, I', rfl, q L' ad⟩
/-- sorted(d) -/
def rSortS (w : World) (K : PySem.W.Frag) : List V → Hp → VK → Prop := fun vs H Q => ∃ D L, vs = [.ref D] ∧ H D = some (.ext (KSX w D L)) ∧ KeysIn K H L ∧ PySem.W.AllAlike (L.map fun p => p.2.data) ∧ PySem.W.Sortable (L.map fun p => p.2.data) ∧ (∀ p ∈ L, p.2.data.depth ≤ 8) ∧
  ∀ (M : List Row) (p : Addr), M.Perm L → H p = none → Q (.ref p) (upd H p (.lst ((M.mergeSort (PySem.W.dataLe false fun r : Row => r.2.data)).map fun r => V.ref r.1)))
theorem vals_refs : ∀ M : List Row, Vals (M.map fun r => V.ref r.1) (M.map fun r => Value.ref r.1)
  | [] => .nil
  | r :: M => .cons (show L2.RelV (.ref r.1) (.ref r.1) from rfl) (vals_refs M)
theorem cr_sortS (hr : X.A.units + 65 < cLine) (hc : X.calm = true) : CallR X (.builtin "sorted") (rSortS X.w X.K) := by
  intro pins s σ H vs us Q I r h
  obtain ⟨D, L, rfl, hD, hL, al, so, hd, q⟩ := h
  obtain ⟨es, ep, t, R, ok⟩ := KSX.get I hD hL
  rw [Vals.ref1 r]
  refine sorted_keys R (I.ok.hd hc) (fun p hp => nest_reads I p.2 (hL p hp).2 (hL p hp).1.1 rfl) al so (fun p hp => by have := hd p hp; omega) fun s' p out c M k g o hp hg hout pM => ?_
  have lenM : (M.mergeSort (PySem.W.dataLe false fun r : Row => r.2.data)).length < 4000 := by rw [List.length_mergeSort, pM.length_eq]; exact R.few
  have line : 10000 ≤ sizeLine := by decide
  have hn : H p = none := I.hok.fresh hp
  have hv : Vals ((M.mergeSort (PySem.W.dataLe false fun r : Row => r.2.data)).map fun r => V.ref r.1) out.toList := by rw [hout]; exact vals_refs _
  have J : L2.Inv X pins σ (upd H p (.lst ((M.mergeSort (PySem.W.dataLe false fun r : Row => r.2.data)).map fun r => V.ref r.1))) { s with heap := s'.heap, gens := s'.gens, drawn := s'.drawn, toks := s'.toks } :=
    I.call (ch := []) (Un.laid k hp hn) (I.hok.laid k hp ⟨by rw [List.length_map]; omega, out.toList, c, hv, hg⟩) (by rw [g]; exact I.bare) (fun _ z => nomatch z)
  have e : s' = { s with heap := s'.heap, gens := s'.gens, drawn := s'.drawn, toks := s'.toks } := by
    cases s'
    cases s
    cases o
    rfl
  rw [e]
  exact ⟨.ref p, _, J, rfl, q M p pM hn⟩
end
end Pf

/-! sets of keys: rows of a program -/
namespace Pf
open PySem PySem.Spec PyProof.Rows L2
/-- d.add(k) -/
def tAddS (w : World) (K : PySem.W.Frag) (to : TE) (ta : TA) : TE := fun σ H Q => to σ H fun x H1 => (∃ D L, x = .ref D ∧ H1 D = some (.ext (KSX w D L))) ∧ ta σ H1 fun vs H2 => rAddS w K x vs H2 Q
/-- {e for target in source if ..}, of keys -/
def tSk (w : World) (K : PySem.W.Frag) (wi : TI) (g : TG) (tt : TT) (te : TE) (vs : List Nat) : TE := fun σ H Q => wi σ H fun J G =>
  ∀ D, G D = none → ∃ W : Nat → Nat → Hp → Prop, (∃ k, W 0 k (upd G D (.ext (KSX w D [])))) ∧
    ∀ i k H, W i k H → (J.stop i H ∧ Q (.ref D) H) ∨ (J.go i H ∧ ∃ Nx : Hp → Prop, (∀ H', Nx H' → ∃ k', k' < k ∧ W (i + 1) k' H') ∧
      ∀ x H', J.yld i H x H' → g x (wipe σ vs) H' fun σ' Ha => wipe σ' vs = wipe σ vs ∧
        tt σ' Ha fun b Hb => if b = true then te σ' Hb fun y Hc => ∃ (a : Addr) (L : List Row) (k : NestedKey), y = .ref a ∧ Hc D = some (.ext (KSX w D L)) ∧ KeyIn K Hc a k ∧ nk k = true ∧ KeysIn K Hc L ∧ L.length + 1 < 4000 ∧
          ∀ L', Added L a k L' → Nx (upd Hc D (.ext (KSX w D L'))) else Nx Hb)
section
variable {X : Cx}
theorem pe_addS {o e : Expr} {to : TE} {ta : TA} {apos cpos : Pos} (hr : X.A.units + 65 < cLine) (ho : PE X o to) (ha : PA X [e] ta)
    (hb : attributeBase o "add" X.env (eval o X.env) = eval o X.env := by rfl)
    (hf : ((backTo cpos (starEach [e] X.env)).all (fun x => !x.1) && (backToKw cpos (keywordEach [] X.env)).all (fun x => x.1.isSome) && decide (([e] : List Expr).length + ([] : List Keyword).length + (if ([] : List Keyword).isEmpty then 0 else 1) < 30)) = true := by rfl)
    (hl : (apos.endLine == cpos.line) = true := by rfl) (hs : starEach [e] X.env = (false, eval e X.env) :: starEach [] X.env := by rfl) (hp : (backTo cpos (starEach [] X.env)).any (·.1) = false := by rfl) :
    PE X (.Call (.Attribute o "add" apos) [e] [] cpos) (tAddS X.w X.K to ta) := ⟨fun pins s σ H Q I h => by
  refine wpAny_Call_method_late hb hf hl rfl (thn (ho.run pins s σ H _ I h) fun v s1 ⟨x1, H1, I1, r1, ⟨D, L, e1, hD⟩, q1⟩ => ?_)
  subst e1
  have r1' : v = .ref D := r1
  subst r1'
  obtain ⟨es, ep, t, R⟩ := (I1.hok D _ hD).1
  refine ⟨"set", "set.add", F.plainAttrs_set, F.slot_set_add, F.type_set_add, R.ty, fun a e => ?_, ?_⟩
  · cases e
    obtain ⟨o', g1, g2, _⟩ := R.ob
    exact ⟨o', g1, g2.2.1⟩
  · have hA := ha.run cpos pins s1 σ H1 (fun vs H2 => rAddS X.w X.K (.ref D) vs H2 Q) I1 q1
    rw [hs] at hA ⊢
    refine Calls.callWith_builtin (by show (false || (backTo cpos (starEach [] X.env)).any (·.1)) = false; rw [hp] <;> rfl) (Calls.evalArgs_plain ?_)
    exact thn hA fun us s2 ⟨vs, H2, I2, r2, q2⟩ => mt_addS hr pins s2 σ H2 (.ref D) vs (.ref D) us Q I2 rfl r2 q2⟩
set_option maxHeartbeats 4000000 in
theorem pe_sk {elt tg iter : Expr} {ifs : List Expr} {scope : Scope} {own : List (PySem.Str × Nat)} {pos : Pos} {wi : TI} {g : TG} {tt : TT} {te : TE} (hr : X.A.units + 65 < cLine)
    (hc : X.calm = true) (hN : X.N.Nodup) (src : PI X tg iter wi) (bk : BlkOk X.N X.env.scope scope own)
    (pgs : ∀ (s : Shared) (H : Hp) (C : Addr) (cl : List (PySem.Str × Addr)) (fp : List Addr), PG (X.blk s H scope (compEnvC scope cl C X.env) fp) tg g)
    (pts : ∀ (s : Shared) (H : Hp) (C : Addr) (cl : List (PySem.Str × Addr)) (fp : List Addr), PTs (X.blk s H scope (compEnvC scope cl C X.env) fp) ifs tt)
    (pes : ∀ (s : Shared) (H : Hp) (C : Addr) (cl : List (PySem.Str × Addr)) (fp : List Addr), PE (X.blk s H scope (compEnvC scope cl C X.env) fp) elt te)
    (nofold : ∀ x, foldedSetIterable iter X.env x = pure x := by intro _; rfl) :
    PE X (.SetComp elt [⟨tg, iter, ifs, 0⟩] scope pos) (tSk X.w X.K wi g tt te (own.map (·.2))) := by
  refine ⟨fun pins s σ H Q I rd => ?_⟩
  rw [PpSet.eval_SetComp]
  have caught : ∀ y ∈ scope.names, y.2 = .free → ∃ c, X.env.cells.lookup y.1 = some c := fun y my ey =>
    (bk.free y my ey).elim (fun z => I.ok.has _ (.inl z)) fun z => I.ok.has _ (.inr z)
  refine wpAny_comprehension_free (use := none) rfl nofold (closure_ok caught) bk.kind (fun y my ey => by rw [bk.uniq y my, ey]) (thn (src.run pins s σ H _ I rd) fun v0 s1 r1 => thn r1 fun v1 s2 r2 => ?_)
  obtain ⟨it, fp, tn, J, Ha, rfl, Ia, Tn, tn0, fpa, more⟩ := r2
  refine PpSet.newSet_ok (newEnv_comp ?_)
  generalize eD : s2.heap.objs.size = D
  obtain ⟨W, ⟨k0, w0⟩, turns⟩ := more D (Ia.hok.fresh (Nat.le_of_eq eD))
  generalize e3 : ({ s2 with heap := s2.heap.push { cls := .type "set", dict := none, data := .set #[] 0 (.fresh 0 0 (!X.w.params.followText "set-order")) } } : Shared) = s3
  have Ib : L2.Inv X pins σ (upd Ha D (.ext (KSX X.w D []))) s3 := by
    subst e3
    refine Ia.laid (t' := s2.toks) (fun b o q => Heap.get?_push_of_some _ q) (Nat.le_of_eq eD) ?_
    subst eD
    exact ks_ok (kset_new (Heap.get?_push_size _ rfl))
  have q3 : s3.heap = s2.heap.push { cls := .type "set", dict := none, data := .set #[] 0 (.fresh 0 0 (!X.w.params.followText "set-order")) } := by subst e3; rfl
  have young : ∀ b ∈ fp, b < s2.heap.objs.size := fun b mb => by
    obtain ⟨o, eo, _⟩ := Tn.obj _ _ tn0 b mb
    exact Heap.lt_size eo
  have fpb : ∀ b ∈ fp, FpOk X pins (upd Ha D (.ext (KSX X.w D []))) b ∧ b < s3.heap.objs.size := fun b mb => by
    have lt := young b mb
    have nb : b ≠ D := by rw [← eD]; exact Nat.ne_of_lt lt
    exact ⟨⟨by rw [upd_ne nb]; exact (fpa b mb).1, (fpa b mb).2⟩, by rw [q3, Heap.size_push]; exact Nat.lt_succ_of_lt lt⟩
  have tn3 : tn 0 s3.heap := Tn.keep _ _ _ tn0 fun b _ o eo => by rw [q3]; exact Heap.get?_push_of_some _ eo
  have Ic := block_start Ib bk hN fpb
  have kg := pgs s3 (upd Ha D (.ext (KSX X.w D []))) s3.heap.objs.size (cellsFrom (s3.heap.objs.size + 1) scope.names (cloFrom X.env.cells scope.names [])) fp
  have kt := pts s3 (upd Ha D (.ext (KSX X.w D []))) s3.heap.objs.size (cellsFrom (s3.heap.objs.size + 1) scope.names (cloFrom X.env.cells scope.names [])) fp
  have ke := pes s3 (upd Ha D (.ext (KSX X.w D []))) s3.heap.objs.size (cellsFrom (s3.heap.objs.size + 1) scope.names (cloFrom X.env.cells scope.names [])) fp
  have nfp : ∀ b ∈ fp, (upd Ha D (.ext (KSX X.w D []))) b = none := fun b mb => (fpb b mb).1.1
  show codeAny _ _ (.compStart (.SetComp elt [⟨tg, iter, ifs, 0⟩] scope pos) 0 (.ref it) (.ref D) (compEnvC scope (cellsFrom (s3.heap.objs.size + 1) scope.names (cloFrom X.env.cells scope.names [])) s3.heap.objs.size X.env))
    (compPost (model X.prog X.w) X.A X.xe none (EP X pins σ Q) (.ref D) s3.heap.objs.size) { s3 with heap := pushCells (s3.heap.push { cls := .type "dict", data := .dict #[] }) scope.names }
  generalize ec : compEnvC scope (cellsFrom (s3.heap.objs.size + 1) scope.names (cloFrom X.env.cells scope.names [])) s3.heap.objs.size X.env = cenv at Ic kg kt ke ⊢
  have locs : cenv.locals = s3.heap.objs.size := by subst ec; rfl
  generalize eH : upd Ha D (.ext (KSX X.w D [])) = Hs at Ib Ic kg kt ke w0 nfp fpb
  generalize e4 : ({ s3 with heap := pushCells (s3.heap.push { cls := .type "dict", data := .dict #[] }) scope.names } : Shared) = s4 at Ic ⊢
  have tn4 : tn 0 s4.heap := Tn.keep _ _ _ tn3 fun b _ o eo => by subst e4; exact pushCells_keeps _ _ _ _ (Heap.get?_push_of_some _ eo)
  have still : ∀ {τ : L2.St} {Hx : Hp} {sx : Shared}, L2.Inv (X.blk s3 Hs scope cenv fp) [] τ Hx sx → (∀ b ∈ fp, Hx b = none) → ∀ b ∈ fp, FpOk (X.blk s3 Hs scope cenv fp) [] Hx b := fun {τ Hx sx} Ix nx b mb =>
    ⟨nx b mb, (Ix.ok.exf b mb).1, Ix.ok.exfs b mb, .inl mb, (fun x c ex => (Ix.ok.exf b mb).2 x c ex), fun p mp => absurd (show p ∈ ([] : List (Addr × Obj)) ++ [] from mp) (by simp)⟩
  have walk : codeAny (model X.prog X.w) X.A (.compLoop (.SetComp elt [⟨tg, iter, ifs, 0⟩] scope pos) 0 (.ref it) (.ref D) cenv) (compPost (model X.prog X.w) X.A X.xe none (EP X pins σ Q) (.ref D) s3.heap.objs.size) s4 := by
    refine PpSet.compLoopS_any (fun k sx => ∃ i Hx, L2.Inv (X.blk s3 Hs scope cenv fp) [] (wipe σ (own.map (·.2))) Hx sx ∧ tn i sx.heap ∧ (∀ b ∈ fp, Hx b = none) ∧ W i k Hx) ?_ k0 ⟨0, Hs, Ic, tn4, nfp, w0⟩
    rintro k s5 ⟨i, H5, I5, tn5, n5, w5⟩
    rcases turns i k H5 w5 with ⟨stop, q⟩ | ⟨go, Nx, down, step⟩
    · refine thnF (Tn.done (X.blk s3 Hs scope cenv fp) rfl rfl rfl hc i [] s5 _ H5 (fun _ _ => False) I5 (still I5 n5) tn5 stop) fun r s6 ⟨er, I6⟩ => ?_
      subst er
      have I7 : L2.Inv X pins σ H5 s6 := Ib.call' (ch := fp) I6.os I6.base I6.hok I6.bare fun b mb => ⟨(fpb b mb).1.2.2.2.1, (fpb b mb).1.2.1, (fpb b mb).1.2.2.2.2.1, (fpb b mb).1.2.2.2.2.2⟩
      have gone : H5 s3.heap.objs.size = none := by
        have z : H5 cenv.locals = none := I6.free
        rw [locs] at z; exact z
      obtain ⟨mm, ns, _⟩ := I6.loc
      have ns : s6.heap.Ns cenv.locals mm := ns
      rw [locs] at ns
      obtain ⟨f0, f1, f2, f3, f4, f5⟩ := Ib.fpOk (Nat.le_refl _) gone
      exact ⟨mm, ns, fun h'' sb => ⟨.ref D, H5, I7.turned (t' := s6.toks) (fun b o nb eo => (sb.2 b nb).trans eo) f0 f1 f3 f4 f5, rfl, q⟩⟩
    · refine thnF (Tn.item (X.blk s3 Hs scope cenv fp) rfl rfl rfl hc i [] s5 _ H5 (fun _ _ => False) I5 (still I5 n5) tn5 go) fun r s6 ⟨u, er, r6⟩ => ?_
      subst er
      refine thnF r6 fun _ s7 ⟨x, H7, I7, r7, y7, tn7, n7⟩ => ?_
      refine thnF (kg.run _ s7 _ H7 x u _ (I7.pinned (still I7 n7) (Tn.obj _ _ tn7)) r7 (step x H7 y7)) fun _ s8 ⟨σ8, H8, I8, ew, q8⟩ => ?_
      refine thnF (kt.run _ s8 σ8 H8 _ I8 q8) fun b s9 ⟨H9, I9, q9⟩ => ?_
      have back : ∀ {sx : Shared} {Hx : Hp}, L2.Inv (X.blk s3 Hs scope cenv fp) ([] ++ pinsAt fp s7.heap) σ8 Hx sx → Nx Hx → ∃ k', k' < k ∧ ∃ i Hx, L2.Inv (X.blk s3 Hs scope cenv fp) [] (wipe σ (own.map (·.2))) Hx sx ∧ tn i sx.heap ∧ (∀ b ∈ fp, Hx b = none) ∧ W i k' Hx := fun {sx Hx} Ix nx => by
        obtain ⟨k', lt, w'⟩ := down Hx nx
        have pinned : ∀ b ∈ fp, ∀ o, s7.heap.get? b = some o → sx.heap.get? b = some o ∧ Hx b = none := fun b mb o eo =>
          let z := Ix.pin (b, o) (List.mem_append_right _ (List.mem_append_right _ (mem_pinsAt mb eo)))
          ⟨z.1, z.2.1⟩
        have len : (wipe σ (own.map (·.2))).length = σ8.length := by rw [← ew, wipe_length]
        refine ⟨k', lt, i + 1, Hx, (Ix.unpinned (pins := [])).weak len (fun j v ej => ?_), Tn.keep _ _ _ tn7 fun b mb o eo => (pinned b mb o eo).1, fun b mb => ?_, w'⟩
        · rw [← ew] at ej; exact (wipe_some ej).1
        · obtain ⟨o, eo, _⟩ := Tn.obj _ _ tn7 b mb
          exact (pinned b mb o eo).2
      cases b with
      | false => exact back I9 q9
      | true =>
        refine thnF (ke.run _ s9 σ8 H9 _ I9 q9) fun uv s10 ⟨yv, H10, I10, r10, a, L, ky, ey, hD10, hk, hn, hL, few, nx⟩ => ?_
        subst ey
        have r10' : uv = .ref a := r10
        subst r10'
        exact add_s (X := X.blk s3 Hs scope cenv fp) hr I10 hD10 hk hn hL few fun s11 L' I11 ad => back I11 (nx L' ad)
  exact PpSet.codeAny_compStart_set walk (Tn.self X.A 0 _ _ _ tn4 walk)
end
/-- as a set takes it -/
def addK (ks : List NestedKey) (k : NestedKey) : List NestedKey := if k ∈ ks then ks else k :: ks
theorem Added.st {K : PySem.W.Frag} {G : Hp} {L L' : List Row} {a : Addr} {k : NestedKey} {ks : List NestedKey} (ad : Added L a k L') (h : StOk K G L ks) (hk : KeyIn K G a k) (hn : nk k = true) : StOk K G L' (addK ks k) := by
  unfold addK
  rcases ad with ⟨h1, rfl⟩ | ⟨h1, h2⟩
  · rw [if_pos (h.2.mem_iff.mp h1)]; exact h
  · rw [if_neg fun z => h1 (h.2.mem_iff.mpr z)]
    refine ⟨fun p hp => ?_, (h2.map _).trans (h.2.cons k)⟩
    rcases List.mem_cons.mp (h2.mem_iff.mp hp) with z | z
    · rw [z]; exact ⟨hk, hn⟩
    · exact h.1 p z
section
variable {K : PySem.W.Frag} {w : World} {X : WX} {env env1 : List SV} {ta tb tc te tl : TE} {t u : TS} {tt : TT} {d : PyData} {i : Nat} {oc : Oc} {ks : List NestedKey} {k : NestedKey} {aa : TA}
/-- te gives a set of these keys -/
def EvSK (K : PySem.W.Frag) (w : World) (te : TE) (env : List SV) (ks : List NestedKey) : Prop := ∀ σ H H1, Stt K H H1 σ env → ∀ Q : VK, (∀ p L G H2, Fr0 H H1 G H2 → H2 p = some (.ext (KSX w p L)) → StOk K G L ks → Q (.ref p) H2) → te σ H1 Q
theorem StOk.len {G : Hp} {L : List Row} (h : StOk K G L ks) : L.length = ks.length := by rw [← h.2.length_eq, List.length_map]
theorem StOk.in {G H : Hp} {L : List Row} (h : StOk K G L ks) (e : Same G H) : KeysIn K H L := fun p hp => ⟨(h.1 p hp).1.mono e, (h.1 p hp).2⟩
theorem ev_inS {neg : Bool} (hk : IsKey k) (hn : nk k = true) (ha : Ev K ta env k.data) (h : env[i]? = some (.stk w ks)) : Ev K (tOp (rInS w K neg) ta (tVar i)) env (.bool (if neg then !decide (k ∈ ks) else decide (k ∈ ks))) := fun σ H H1 st Q q =>
  ha σ H H1 st _ fun v G H2 f dv => by
    obtain ⟨a, rfl, ki⟩ := key_in hk dv
    obtain ⟨o, e1, l, L, rfl, _, e2, e3⟩ := (st.mono f).get h
    refine ⟨_, e1, a, l, L, k, rfl, rfl, e2, ki.mono f.r, hn, e3.in f.r, ?_⟩
    have e4 : decide (k ∈ L.map (·.2)) = decide (k ∈ ks) := decide_eq_decide.mpr e3.2.mem_iff
    rw [e4]
    exact q _ G H2 f (.bl _)
theorem sx_newS : Sx K X (tAsg (tCB (rNewS w) tNil) (gName i)) env (.nx (env.set i (.stk w []))) := fun σ H H1 st D q => ⟨rfl, fun p hp => by
  have f : Fr0 H H1 H (upd H1 p (.ext (KSX w p []))) := Fr.hid st.e hp
  refine q _ H _ (f.mono fun _ z => z.elim) ((st.mono f).setO ⟨p, [], rfl, st.e.free hp, upd_same, fun _ z => absurd z List.not_mem_nil, .nil⟩ fun j s a b _ z => (st.owned ⟨j, s, a, b, z⟩).2 hp) fun l z => ?_
  rcases Ow.set z with z | ⟨_, z⟩
  · exact .inl z
  · cases z; exact .inr hp⟩
theorem sx_addS (h : env[i]? = some (.stk w ks)) (hk : IsKey k) (hn : nk k = true) (ha : Ev K ta env k.data) (hz : ks.length < 3990) : Sx K X (tDrop (tAddS w K (tVar i) (tCons ta tNil))) env (.nx (env.set i (.stk w (addK ks k)))) := fun σ H H1 st D q => by
  obtain ⟨o, e1, l, L, rfl, b, c, d⟩ := st.get h
  refine ⟨_, e1, ⟨l, L, rfl, c⟩, ha σ H H1 st _ fun kv G H2 f dk => ?_⟩
  obtain ⟨a, rfl, ki⟩ := key_in hk dk
  have st2 := st.mono f
  obtain ⟨o, e1', l', L', rfl, b1, b2, b3⟩ := st2.get h
  rw [e1] at e1'; cases e1'
  refine ⟨a, l, L', k, rfl, rfl, b2, ki.mono f.r, hn, b3.in f.r, by rw [b3.len]; omega, fun L2 ad => ?_⟩
  obtain ⟨w1, w2, w3⟩ := st2.write (o := .ext (KSX w l L2)) (s' := .stk w (addK ks k)) h rfl e1 ⟨l, L2, rfl, b1, upd_same, ad.st b3 ki hn⟩ rfl
  exact q σ _ _ ((f.mono fun _ z => z.elim).trans w2 fun p z => .inl z) w1 fun p z => .inl (w3 p z)
/-- a set's keys in another order -/
theorem sx_stk {ks' : List NestedKey} (h : env1[i]? = some (.stk w ks)) (p : ks.Perm ks') (k : Sx K X t env (.nx env1)) : Sx K X t env (.nx (env1.set i (.stk w ks'))) := fun σ H H1 st D q =>
  k σ H H1 st D fun σ' G H2 f st' o => by
    refine q σ' G H2 f (st'.re h (fun o' _ ok => ?_) fun z => z) fun l z => o l (Ow.re (s' := .stk w ks') h (fun _ => rfl) z)
    obtain ⟨l, L, e, b, c, d⟩ := ok
    exact ⟨l, L, e, b, c, d.1, d.2.trans p⟩
/-- what a comprehension has put into its set behind some turns -/
def Fk (K : PySem.W.Frag) (w : World) (G0 H2 : Hp) (D : Addr) (ks : List NestedKey) (H' : Hp) : Prop := ∃ G L, Fr (fun p => p = D) G0 H2 G H' ∧ G D = none ∧ H' D = some (.ext (KSX w D L)) ∧ StOk K G L ks
theorem fk_turn {H2 H' G G0 : Hp} {D : Addr} {L : List Row} {k₀ : NestedKey} {b : Bool} {σ2 : L2.St} (f : Fr (fun p => p = D) G0 H2 G H') (hG : G D = none) (ha : H' D = some (.ext (KSX w D L))) (hS : StOk K G L ks) (hz : ks.length < 3990)
    (st : Stt K G H' σ2 env1) (ht : EvT K tt env1 b) (hk : IsKey k₀) (hn : nk k₀ = true) (he : b = true → Ev K te env1 k₀.data) :
    tt σ2 H' fun c H3 => if c = true then te σ2 H3 fun y H4 => ∃ (a : Addr) (L : List Row) (k : NestedKey), y = .ref a ∧ H4 D = some (.ext (KSX w D L)) ∧ KeyIn K H4 a k ∧ nk k = true ∧ KeysIn K H4 L ∧ L.length + 1 < 4000 ∧
      ∀ L', Added L a k L' → Fk K w G0 H2 D (if b = true then addK ks k₀ else ks) (upd H4 D (.ext (KSX w D L'))) else Fk K w G0 H2 D (if b = true then addK ks k₀ else ks) H3 := by
  refine ht σ2 G H' st _ fun G1 H3 f1 => ?_
  have D1 : G1 D = none := f1.n D (fun z => z) hG (by rw [ha]; exact fun z => nomatch z)
  cases b with
  | true =>
    show te σ2 H3 _
    refine he rfl σ2 G1 H3 (st.mono f1) _ fun y G2 H4 f2 d2 => ?_
    obtain ⟨a, rfl, ki⟩ := key_in hk d2
    have a3 := f1.a _ _ ha
    have D2 : G2 D = none := f2.n D (fun z => z) D1 (by rw [a3]; exact fun z => nomatch z)
    have f3 := (f.tr0 f1).tr0 f2
    have hS2 := hS.mono (f1.g.trans f2.g)
    refine ⟨a, L, k₀, rfl, f2.a _ _ a3, ki.mono f2.r, hn, hS2.in f2.r, by rw [hS2.len]; omega, fun L' ad => ⟨G2, L', ⟨f3.g, fun p o e => ?_, fun p o nw e => ?_, f3.n, fun p e => f3.m p (upd_none e)⟩, D2, upd_same, ad.st hS2 ki hn⟩⟩
    · rw [upd_ne (ne_of_none e D2)]; exact f3.r p o e
    · rw [upd_ne (show p ≠ D from nw)]; exact f3.s p o nw e
  | false => exact ⟨G1, L, f.tr0 f1, D1, f1.a _ _ ha, hS.mono f1.g⟩
/-- the keys that a comprehension finds, each once -/
def setK {α : Type} (f : α → Bool) (kk : α → NestedKey) (xs : List α) : List NestedKey := xs.foldl (fun ks x => if f x = true then addK ks (kk x) else ks) []
theorem setK_next {α : Type} {f : α → Bool} {kk : α → NestedKey} {xs : List α} {i : Nat} {x : α} (h : xs[i]? = some x) : setK f kk (xs.take (i + 1)) = if f x = true then addK (setK f kk (xs.take i)) (kk x) else setK f kk (xs.take i) := by
  unfold setK
  rw [List.take_add_one, h, List.foldl_append]; rfl
theorem es_sk {α : Type} (xs : List α) (en : α → PyData) (f : α → Bool) (kk : α → NestedKey) {g : TG} {vs : List Nat} (h : Ev K tl env (.list (xs.map en))) (few : ∀ i, (setK f kk (xs.take i)).length < 3990) (key : ∀ x ∈ xs, IsKey (kk x) ∧ nk (kk x) = true)
    (turn : ∀ x ∈ xs, ∃ env', Tgw K vs g (wipeE env vs) (en x) env' ∧ EvT K tt env' (f x) ∧ (f x = true → Ev K te env' (kk x).data)) :
    EvSK K w (tSk w K (iList K tl) g tt te vs) env (setK f kk xs) := fun σ H H1 st Q q => by
  refine h σ H H1 st _ fun v0 G0 H2 f0 dv => ?_
  cases dv with
  | @lst a as _ hl hd =>
    refine ⟨a, rfl, ⟨as, f0.r.seq hl⟩, fun D hD => ?_⟩
    have st0 := st.mono f0
    have nD : ∀ l, Ow (L2.wipe σ vs) (wipeE env vs) l → ¬ l = D := fun l z e => by
      have := (st0.owned (Ow.wipe z)).2
      exact this (by rw [e]; exact hD)
    have hlen : as.length = xs.length := by rw [dpa_len hd, List.length_map]
    refine ⟨fun i k H' => k = xs.length - i ∧ i ≤ xs.length ∧ Fk K w G0 H2 D (setK f kk (xs.take i)) H', ⟨xs.length, rfl, Nat.zero_le _, G0, [], Fr.hid f0.r hD, f0.r.free hD, upd_same, fun _ z => absurd z List.not_mem_nil, .nil⟩, ?_⟩
    rintro i k H' ⟨rfl, hi, G, L, f1, hG, ha, hS⟩
    have hq : SqL K H' a as := f1.r.seq (f1.g.seq hl)
    by_cases hlt : i < xs.length
    · have hia : i < as.length := by omega
      refine .inr ⟨⟨as, as[i], hq, List.getElem?_eq_getElem hia⟩, Fk K w G0 H2 D (setK f kk (xs.take (i + 1))), fun Hx p => ⟨xs.length - (i + 1), by omega, rfl, hlt, p⟩, fun x Hx y => ?_⟩
      obtain ⟨rfl, yx⟩ := y
      obtain ⟨d, e1, e2⟩ := dpa_get hd (yx as hq)
      rw [List.getElem?_map, List.getElem?_eq_getElem hlt] at e1
      obtain rfl := Option.some.inj e1
      obtain ⟨env', tg, ht, he⟩ := turn xs[i] (List.getElem_mem hlt)
      obtain ⟨k1, k2⟩ := key xs[i] (List.getElem_mem hlt)
      refine tg _ G Hx x ((st0.wipe vs).monoW f1 nD) (dm f1.g e2) _ fun σ' st' o hw => ⟨?_, ?_⟩
      · rw [hw]; exact wipe_wipe fun _ z => z
      · rw [setK_next (List.getElem?_eq_getElem hlt)]
        exact fk_turn f1 hG ha hS (few i) st' ht k1 k2 he
    · have ei : i = xs.length := by omega
      subst ei
      refine .inl ⟨⟨as, hq, by omega⟩, ?_⟩
      rw [List.take_length] at hS
      exact q D L G H' (f0.trans f1 fun p z => .inr (by rw [z]; exact f0.a.free hD)) ha hS
theorem rows_dp {G : Hp} : ∀ {M : List Row}, (∀ p ∈ M, KeyIn K G p.1 p.2) → DpAll K G (M.map fun r => V.ref r.1) (M.map fun r => r.2.data)
  | [], _ => .nil
  | p :: M, h => .cons (h p List.mem_cons_self).1 (rows_dp fun q hq => h q (List.mem_cons_of_mem _ hq))
theorem eo_sortK {α : Type} (kk : α → NestedKey) (en : α → PyData) (he : ∀ x, (kk x).data = en x) {xs ys : List α} (ha : EvSK K w ta env (xs.map kk)) (al : ∀ a b, PySem.W.alike (en a) (en b) = true) (so : ∀ a, ∃ x r, en a = .tuple (x :: r)) (hd : ∀ a, (en a).depth ≤ 8)
    (one : ∀ zs : List α, zs.Perm xs → zs.mergeSort (PySem.W.dataLe false en) = ys) : EvO K (tCB (rSortS w K) (tCons ta tNil)) env (ys.map en) := fun σ H H1 st Q q =>
  ha σ H H1 st _ fun p L G H2 f h2 hS => by
    have mem : ∀ r ∈ L, ∃ x, r.2 = kk x := fun r hr => by
      obtain ⟨x, _, e⟩ := List.mem_map.mp (hS.2.mem_iff.mp (List.mem_map.mpr ⟨r, hr, rfl⟩))
      exact ⟨x, e.symm⟩
    refine ⟨p, L, rfl, h2, hS.in f.r, fun d h d' h' => ?_, .inl fun d h => ?_, fun r hr => ?_, fun M p2 pM hp2 => ?_⟩
    · obtain ⟨r, hr, rfl⟩ := List.mem_map.mp h
      obtain ⟨r', hr', rfl⟩ := List.mem_map.mp h'
      obtain ⟨x, e⟩ := mem r hr
      obtain ⟨x', e'⟩ := mem r' hr'
      rw [e, e', he, he]; exact al x x'
    · obtain ⟨r, hr, rfl⟩ := List.mem_map.mp h
      obtain ⟨x, e⟩ := mem r hr
      rw [e, he]; exact so x
    · obtain ⟨x, e⟩ := mem r hr
      rw [e, he]; exact hd x
    · obtain ⟨zs, z1, z2⟩ := perm_out ((pM.map (·.2)).trans hS.2) xs rfl
      have e1 : (M.mergeSort (PySem.W.dataLe false fun r : Row => r.2.data)).map (fun r => r.2.data) = ys.map en := by
        have a1 : (M.mergeSort (PySem.W.dataLe false fun r : Row => r.2.data)).map (fun r => r.2.data) = (M.map fun r => r.2.data).mergeSort (PySem.W.dataLe false id) := List.map_mergeSort (r := PySem.W.dataLe false fun r : Row => r.2.data) (s := PySem.W.dataLe false id) (f := fun r : Row => r.2.data) fun _ _ _ _ => rfl
        have a2 : (zs.mergeSort (PySem.W.dataLe false en)).map en = (zs.map en).mergeSort (PySem.W.dataLe false id) := List.map_mergeSort (r := PySem.W.dataLe false en) (s := PySem.W.dataLe false id) (f := en) fun _ _ _ _ => rfl
        have a3 : (M.map fun r => r.2.data) = zs.map en := by
          have : (M.map fun r => r.2.data) = (M.map (·.2)).map NestedKey.data := by rw [List.map_map]; rfl
          rw [this, z1, List.map_map]
          exact List.map_congr_left fun x _ => he x
        rw [a1, a3, ← a2, one zs z2]
      have hg : G p2 = none := f.r.free hp2
      refine q p2 _ G _ ⟨f.g, fun x o z => newS hp2 x o (f.r x o z), fun x o w z => newS hp2 x o (f.s x o w z), f.n, fun x z => f.m x (upd_none z)⟩ (f.m _ hp2) hg upd_same ?_
      rw [← e1]
      exact rows_dp fun r hr => (hS.1 r (pM.mem_iff.mp ((List.mergeSort_perm _ _).mem_iff.mp hr))).1
theorem big_lt {m : Nat} (h : m < 16000000) : m < sizeLine := Nat.lt_of_lt_of_le h (by rw [sizeLine_eq]; decide)
theorem mk_turnB {H2 H' G G0 : Hp} {D : Addr} {ac : List V} {ds : List PyData} {σ2 : L2.St} (f : Fr (fun p => p = D) G0 H2 G H') (hG : G D = none) (ha : H' D = some (.lst ac)) (dv : DpAll K G ac ds) (hz : ds.length < 16000000)
    (st : Stt K G H' σ2 env1) (ht : EvT K tt env1 true) (he : Ev K te env1 d) :
    tt σ2 H' fun k H3 => if k = true then te σ2 H3 fun y H4 => ∃ acc, H4 D = some (.lst acc) ∧ acc.length < sizeLine ∧ Mk K G0 H2 D (ds ++ [d]) (upd H4 D (.lst (acc ++ [y]))) else Mk K G0 H2 D (ds ++ [d]) H3 := by
  refine ht σ2 G H' st _ fun G1 H3 f1 => ?_
  have D1 : G1 D = none := f1.n D (fun z => z) hG (by rw [ha]; exact fun z => nomatch z)
  rw [if_pos rfl]
  refine he σ2 G1 H3 (st.mono f1) _ fun y G2 H4 f2 d2 => ?_
  have a3 := f1.a _ _ ha
  have D2 : G2 D = none := f2.n D (fun z => z) D1 (by rw [a3]; exact fun z => nomatch z)
  have f3 := (f.tr0 f1).tr0 f2
  refine ⟨ac, f2.a _ _ a3, big_lt (by rw [dpa_len dv]; exact hz), G2, ac ++ [y], ⟨f3.g, fun p o z => ?_, fun p o nw z => ?_, f3.n, fun p z => f3.m p (upd_none z)⟩, D2, upd_same, dpa_app (dms (f1.g.trans f2.g) dv) (.cons d2 .nil)⟩
  · rw [upd_ne (ne_of_none z D2)]; exact f3.r p o z
  · rw [upd_ne (show p ≠ D from nw)]; exact f3.s p o nw z
/-- [e for x in a list for y in a list] -/
theorem eo_lc2 {α β : Type} (xs : List α) (en : α → PyData) (ys : α → List β) (em : β → PyData) (wd : β → PyData) {g g1 : TG} {tt1 : TT} {tl1 : TE} {vs vs1 : List Nat} (h : Ev K tl env (.list (xs.map en))) (hz : (xs.flatMap ys).length < 16000000) (sub : ∀ v ∈ vs1, v ∈ vs)
    (turn : ∀ x ∈ xs, ∃ env', Tgw K vs g (wipeE env vs) (en x) env' ∧ EvT K tt env' true ∧ Ev K tl1 env' (.list ((ys x).map em)) ∧ ∀ y ∈ ys x, ∃ env2, Tgw K vs1 g1 (wipeE env' vs1) (em y) env2 ∧ EvT K tt1 env2 true ∧ Ev K te env2 (wd y)) :
    EvO K (tLc2 (iList K tl) g tt (iList K tl1) g1 tt1 te vs vs1) env ((xs.flatMap ys).map wd) := fun σ H H1 st Q q => by
  refine h σ H H1 st _ fun v0 G0 H2 f0 dv => ?_
  cases dv with
  | @lst a as _ hl hd =>
    refine ⟨a, rfl, ⟨as, f0.r.seq hl⟩, fun D hD => ?_⟩
    have st0 := st.mono f0
    have nD : ∀ l, Ow (L2.wipe σ vs) (wipeE env vs) l → ¬ l = D := fun l z e => by
      have := (st0.owned (Ow.wipe z)).2
      exact this (by rw [e]; exact hD)
    have hlen : as.length = xs.length := by rw [dpa_len hd, List.length_map]
    refine ⟨fun i k H' => k = xs.length - i ∧ i ≤ xs.length ∧ Mk K G0 H2 D (((xs.take i).flatMap ys).map wd) H', ⟨xs.length, rfl, Nat.zero_le _, mk_start f0.r hD⟩, ?_⟩
    rintro i k H' ⟨rfl, hi, G, ac, f1, hG, ha, da⟩
    have hq : SqL K H' a as := f1.r.seq (f1.g.seq hl)
    by_cases hlt : i < xs.length
    · have hia : i < as.length := by omega
      refine .inr ⟨⟨as, as[i], hq, List.getElem?_eq_getElem hia⟩, Mk K G0 H2 D (((xs.take (i + 1)).flatMap ys).map wd), fun Hx p => ⟨xs.length - (i + 1), by omega, rfl, hlt, p⟩, fun x Hx y => ?_⟩
      obtain ⟨rfl, yx⟩ := y
      obtain ⟨d, e1, e2⟩ := dpa_get hd (yx as hq)
      rw [List.getElem?_map, List.getElem?_eq_getElem hlt] at e1
      obtain rfl := Option.some.inj e1
      obtain ⟨env', tg, ht, hin, each⟩ := turn xs[i] (List.getElem_mem hlt)
      have enext : ((xs.take (i + 1)).flatMap ys) = ((xs.take i).flatMap ys) ++ ys xs[i] := by
        rw [List.take_succ_eq_append_getElem hlt, List.flatMap_append, List.flatMap_cons, List.flatMap_nil, List.append_nil]
      have short : (((xs.take i).flatMap ys) ++ ys xs[i]).length ≤ (xs.flatMap ys).length := by
        rw [← enext]
        have : (xs.flatMap ys) = ((xs.take (i + 1)).flatMap ys) ++ ((xs.drop (i + 1)).flatMap ys) := by rw [← List.flatMap_append, List.take_append_drop]
        rw [this, List.length_append]; omega
      rw [List.length_append] at short
      refine tg _ G Hx x ((st0.wipe vs).monoW f1 nD) (dm f1.g e2) _ fun σ' st' o hw => ⟨?_, ?_⟩
      · rw [hw]; exact wipe_wipe fun _ z => z
      refine ht σ' G Hx st' _ fun G3 H3 f3 => ?_
      rw [if_pos rfl]
      refine hin σ' G3 H3 (st'.mono f3) _ fun v4 G4 H4 f4 dv4 => ?_
      have D3 : G3 D = none := f3.n D (fun z => z) hG (by rw [ha]; exact fun z => nomatch z)
      have a3 := f3.a _ _ ha
      have D4 : G4 D = none := f4.n D (fun z => z) D3 (by rw [a3]; exact fun z => nomatch z)
      have a4 := f4.a _ _ a3
      have ff : Fr (fun p => p = D) G0 H2 G4 H4 := (f1.tr0 f3).tr0 f4
      have st4 := (st'.mono f3).mono f4
      have nD4 : ∀ l, Ow (L2.wipe σ' vs1) (wipeE env' vs1) l → ¬ l = D := fun l z e => by
        have z1 := o l (Ow.wipe z)
        exact nD l z1 e
      generalize hys : ys xs[i] = Y at *
      cases dv4 with
      | @lst a1 as1 _ hl1 hd1 =>
        refine ⟨a1, rfl, ⟨as1, f4.r.seq hl1⟩, ?_⟩
        have hlen1 : as1.length = Y.length := by rw [dpa_len hd1, List.length_map]
        refine ⟨fun j k H' => k = Y.length - j ∧ j ≤ Y.length ∧ ∃ G ac, Fr (fun p => p = D) G4 H4 G H' ∧ G D = none ∧ H' D = some (.lst ac) ∧ DpAll K G ac ((((xs.take i).flatMap ys) ++ Y.take j).map wd), ⟨Y.length, rfl, Nat.zero_le _, G4, ac, Fr.refl f4.r, D4, a4, by rw [List.take_zero, List.append_nil]; exact dms (f3.g.trans f4.g) da⟩, ?_⟩
        rintro j k H' ⟨rfl, hj, G5, ac5, f5, hG5, ha5, da5⟩
        have hq1 : SqL K H' a1 as1 := f5.r.seq (f5.g.seq hl1)
        by_cases hlt1 : j < Y.length
        · have hja : j < as1.length := by omega
          refine .inr ⟨⟨as1, as1[j], hq1, List.getElem?_eq_getElem hja⟩, Mk K G4 H4 D ((((xs.take i).flatMap ys) ++ Y.take (j + 1)).map wd), fun Hx p => ⟨Y.length - (j + 1), by omega, rfl, hlt1, p⟩, fun x Hx y => ?_⟩
          obtain ⟨rfl, yx⟩ := y
          obtain ⟨d, e1, e2⟩ := dpa_get hd1 (yx as1 hq1)
          rw [List.getElem?_map, List.getElem?_eq_getElem hlt1] at e1
          obtain rfl := Option.some.inj e1
          obtain ⟨env2, tg2, ht2, he2⟩ := each Y[j] (List.getElem_mem hlt1)
          refine tg2 _ G5 Hx x ((st4.wipe vs1).monoW f5 nD4) (dm f5.g e2) _ fun σ2 st2 o2 hw2 => ⟨?_, ?_⟩
          · rw [hw2]; exact wipe_wipe fun _ z => z
          · have en2 : (((xs.take i).flatMap ys) ++ Y.take (j + 1)).map wd = (((xs.take i).flatMap ys) ++ Y.take j).map wd ++ [wd Y[j]] := by
              rw [List.take_succ_eq_append_getElem hlt1, ← List.append_assoc, List.map_append]; rfl
            rw [en2]
            refine mk_turnB f5 hG5 ha5 da5 ?_ st2 ht2 he2
            rw [List.length_map, List.length_append, List.length_take]; omega
        · have ej : j = Y.length := by omega
          subst ej
          refine .inl ⟨⟨as1, hq1, by omega⟩, G5, ac5, ff.trans f5 fun p z => .inl z, hG5, ha5, ?_⟩
          rw [enext]
          rw [List.take_length] at da5; exact da5
    · have ei : i = xs.length := by omega
      subst ei
      refine .inl ⟨⟨as, hq, by omega⟩, ?_⟩
      rw [List.take_length] at da
      exact q D ac G H' (f0.trans f1 fun p z => .inr (by rw [z]; exact f0.a.free hD)) (f0.a.free hD) hG ha da
end
/-- a list walked in a block -/
theorem pi_listK {X : Cx} {K : PySem.W.Frag} {tg e : Expr} {tl : TE} (he : PE X e tl) (hK : X.K = K) : PI X tg e (iList K tl) := hK ▸ pi_list he
theorem evx_lst {K : PySem.W.Frag} {X : WX} {env : List SV} {c : Value} {aa : TA} (ha : EvXA K X aa env c) : EvX K X (tLst aa) env c := fun σ H H1 st Q q => ha σ H H1 st _ q
end Pf

/-! data compared; dicts given back; enumerate -/
namespace Pf
open PySem PySem.Spec PyProof.Rows L2
def rLtD (K : PySem.W.Frag) : R2 := fun x y H Q => ∃ d e, Dp K H x d ∧ Dp K H y e ∧ PySem.W.alike d e = true ∧ d ≠ .none ∧ d.depth ≤ 8 ∧ Q (.bl (PySem.W.dataLt d e)) H
theorem op_ltD {X : Cx} (hr : X.A.units + 65 < cLine) : OpR X (compareOp .Lt) (rLtD X.K) := by
  intro pins s σ H x y v u Q I rx ry h
  obtain ⟨d, e, hd, he, al, nn, dp, q⟩ := h
  obtain ⟨as, r1⟩ := Dp.reads I d x v hd rx
  obtain ⟨bs, r2⟩ := Dp.reads I e y u he ry
  exact PySem.W.lt_data r1 r2 al nn (by omega) ⟨.bl _, H, I, rfl, q⟩
/-- a def that gives a dict -/
def spD (K : PySem.W.Frag) (P : Program) (w : World) (R : List PyData → List Kv → Prop) : Sp := fun vs H1 Q _ => ∃ H ds kvs, Same H H1 ∧ DpAll K H vs ds ∧ R ds kvs ∧ ∀ p xs G H2, Fr0 H H1 G H2 → H1 p = none → G p = none → H2 p = some (.ext (DX P w p xs)) → KvOk K G xs kvs → Q (.ref p) H2
/-- te gives a new dict -/
def EvD (K : PySem.W.Frag) (P : Program) (w : World) (te : TE) (env : List SV) (kvs : List Kv) : Prop := ∀ σ H H1, Stt K H H1 σ env → ∀ Q : VK, (∀ p xs G H2, Fr0 H H1 G H2 → H1 p = none → G p = none → H2 p = some (.ext (DX P w p xs)) → KvOk K G xs kvs → Q (.ref p) H2) → te σ H1 Q
mutual
theorem key_nolist : ∀ k : NestedKey, nolist k.data = true
  | .none => by rw [NestedKey.data]; simp [nolist]
  | .num i => by rw [NestedKey.data]; simp [nolist]
  | .text x => by rw [NestedKey.data]; simp [nolist]
  | .tup ks => by rw [NestedKey.data, nolist]; exact keys_nolist ks
theorem keys_nolist : ∀ ks : List NestedKey, nolists (NestedKey.datas ks) = true
  | [] => by rw [NestedKey.datas]; simp [nolists]
  | k :: ks => by rw [NestedKey.datas, nolists, key_nolist k, keys_nolist ks]; rfl
end
section
variable {P : Program} {w : World} {K : PySem.W.Frag} {X : WX} {env env1 env' : List SV} {ta tb tc te tl : TE} {t u : TS} {tt : TT} {d e : PyData} {i j : Nat} {oc : Oc} {kvs : List Kv} {aa : TA} {xs ys ds : List PyData} {G H H1 H2 : Hp}
theorem ev_ltD (ha : Ev K ta env d) (hb : Ev K tb env e) (al : PySem.W.alike d e = true) (nn : d ≠ .none) (dp : d.depth ≤ 8) : Ev K (tOp (rLtD K) ta tb) env (.bool (PySem.W.dataLt d e)) :=
  ev_op ha hb fun x y H H1 Q s d1 d2 q => ⟨d, e, dm s d1, dm s d2, al, nn, dp, q _ H H1 (Fr.refl s) (.bl _)⟩
theorem kv_rem {l : Addr} {ws : List V} (g : G l = some (.lst ws)) : ∀ {xs : List Ent} {kvs : List Kv}, KvOk K G xs kvs → (∀ p ∈ kvs, nolist p.2 = true) → KvOk K (rem G l) xs kvs
  | _, _, .nil, _ => .nil
  | _, _, .cons (k := k) (d := d) a b c r, h => by
    have h1 := h (k, d) List.mem_cons_self
    refine .cons ⟨dp_rem g a.1 (key_nolist k), a.2⟩ b ⟨dp_rem g c.1 h1, fun ds e => ?_⟩ (kv_rem g r fun p hp => h p (List.mem_cons_of_mem _ hp))
    have h2 : nolist (PyData.list ds) = true := e ▸ h1
    simp [nolist] at h2
theorem ed_call {R : List PyData → List Kv → Prop} {E : L2.St → XK} (ha : EvA K aa env ds) (hr : R ds kvs) : EvD K P w (tCallS (spD K P w R) E aa) env kvs := fun σ H H1 st Q q =>
  ha σ H H1 st _ fun vs G H2 f dv => ⟨G, ds, kvs, f.r, dv, hr, fun p xs G3 H3 f3 h1 h2 h3 d3 => q p xs G3 H3 (f.tr0 f3) (f.a.free h1) h2 h3 d3⟩
theorem ed_fix (i : Nat) (h : env[i]? = some (.own xs)) (nl : ∀ p ∈ kvs, nolist p.2 = true) (k : EvD K P w te (env.set i (.dat (.list xs))) kvs) : EvD K P w te env kvs := fun σ H H1 st Q q => by
  obtain ⟨l, vs, a, b, c, st'⟩ := st.freeze h
  refine k σ _ H1 st' Q fun p xs G H2 f h1 hg h2 dv => ?_
  have g : G l = some (.lst vs) := f.g _ _ upd_same
  have hg' : rem G l p = none := by
    by_cases n : p = l
    · subst n; unfold rem; rw [if_pos rfl]
    · rw [rem_ne n]; exact hg
  refine q p xs (rem G l) H2 ⟨fun p o z => ?_, fun p o z => ?_, f.s, fun p w z1 z2 => ?_, f.m⟩ h1 hg' h2 (kv_rem g dv nl)
  · have n : p ≠ l := fun y => by rw [y, b] at z; cases z
    rw [rem_ne n]; exact f.g _ _ (by rw [upd_ne n]; exact z)
  · by_cases n : p = l
    · subst n; unfold rem at z; rw [if_pos rfl] at z; cases z
    · rw [rem_ne n] at z; exact f.r _ _ z
  · by_cases n : p = l
    · subst n; unfold rem; rw [if_pos rfl]
    · rw [rem_ne n]; exact f.n p w (by rw [upd_ne n]; exact z1) z2
theorem sx_setX (h : EvD K P w te env kvs) : Sx K X (tAsg te (gName i)) env (.nx (env.set i (.dct P w kvs))) := fun σ H H1 st D q =>
  h σ H H1 st _ fun p xs G H2 f h1 hg h2 dv => by
    refine q _ G H2 (f.mono fun _ z => z.elim) ((st.mono f).setO ⟨p, xs, rfl, hg, h2, dv⟩ fun j s a b _ z => (st.owned ⟨j, s, a, b, z⟩).2 h1) fun l z => ?_
    rcases Ow.set z with z | ⟨_, z⟩
    · exact .inl z
    · cases z; exact .inr h1
theorem sx_retX (h : env[i]? = some (.dct P w kvs)) : Sx K X (tRet (tVar i)) env (.ry P w kvs) := fun σ H H1 st D q => by
  obtain ⟨o, a, l, xs, rfl, b, c, kv⟩ := st.get h
  exact ⟨_, a, q l xs H H1 (Fr.refl st.e) (.inl ⟨i, _, h, rfl, a⟩) b c kv⟩
/-- a dict is not None -/
theorem ev_isNX (h : IsDc P w env i kvs) : Ev K (tOp (fun x y H Q => y = .non ∧ Q (.bl (decide (x = .non))) H) (tVar i) (tC .non)) env (.bool false) := fun σ H H1 st Q q => by
  obtain ⟨l, xs, e1, _, _⟩ := st.dc h
  exact ⟨_, e1, rfl, q _ H H1 (Fr.refl st.e) (.bl _)⟩
/-- [e for x in one's own list if ..] -/
theorem eo_lcO {α : Type} (xs : List α) (en : α → PyData) (f : α → Bool) (wd : α → PyData) {g : TG} {vs : List Nat} (h : EvL K tl env (xs.map en)) (hz : xs.length < 100000) (turn : ∀ x ∈ xs, ∃ env', Tgw K vs g (wipeE env vs) (en x) env' ∧ EvT K tt env' (f x) ∧ (f x = true → Ev K te env' (wd x))) :
    EvO K (tLc (iList K tl) g tt te vs) env ((xs.filter f).map wd) := fun σ H H1 st Q q => by
  refine h σ H H1 st _ fun a as G0 H2 f0 h2 hd => ?_
  refine ⟨a, rfl, ⟨as, .inl (.inl h2)⟩, fun D hD => ?_⟩
  have st0 := st.mono f0
  have nD : ∀ l, Ow (L2.wipe σ vs) (wipeE env vs) l → ¬ l = D := fun l z e => by
    have := (st0.owned (Ow.wipe z)).2
    exact this (by rw [e]; exact hD)
  have aD : a ≠ D := fun z => by rw [z, hD] at h2; cases h2
  have hlen : as.length = xs.length := by rw [dpa_len hd, List.length_map]
  refine lc_list (K := K) (a := a) (xs := as) (fun i H' => Mk K G0 H2 D (((xs.take i).filter f).map wd) H') (mk_start f0.r hD) (fun i H' _ p => ?_) (fun i x H' hi p => ?_) (fun H' p => ?_)
  · obtain ⟨G, ac, f1, _⟩ := p
    exact .inl (.inl (f1.s a _ aD h2))
  · obtain ⟨G, ac, f1, hG, ha, da⟩ := p
    obtain ⟨d, e1, e2⟩ := dpa_get hd hi
    rw [List.getElem?_map] at e1
    cases ex : xs[i]? with
    | none => rw [ex] at e1; cases e1
    | some x' =>
      rw [ex] at e1
      obtain rfl : en x' = d := Option.some.inj e1
      obtain ⟨env', tg, ht, he⟩ := turn x' (List.mem_of_getElem? ex)
      refine tg _ G H' x ((st0.wipe vs).monoW f1 nD) (dm f1.g e2) _ fun σ' st' o hw => ⟨?_, ?_⟩
      · rw [hw]; exact wipe_wipe fun _ z => z
      · rw [filter_next ex]
        exact mk_turn f1 hG ha da (take_short hz) st' ht he
  · obtain ⟨G, ac, f1, hG, ha, da⟩ := p
    have ff : Fr0 H H1 G H' := f0.trans f1 fun p z => .inr (by rw [z]; exact f0.a.free hD)
    rw [hlen, List.take_length] at da
    exact q D ac G H' ff (f0.a.free hD) hG ha da
/-- for k, x in enumerate(a list of data) -/
theorem sx_forEn {g : TG} (h : Ev K tl env (.list ds)) (Inv : Nat → List SV) (h0 : Inv 0 = env) (go : ∀ (i : Nat) (d : PyData), ds[i]? = some d → ∃ env', Tg K g (Inv i) (.tuple [.int i, d]) env' ∧ Go K X t env' (Inv (i + 1))) :
    Sx K X (tFor (iEnum K (tCons tl tNil)) g t) env (.nx (Inv ds.length)) := fun σ H H1 st D q => by
  refine h σ H H1 st _ fun v G0 H2 f dv => ?_
  cases dv with
  | @lst a vs _ hl hd =>
    have f' : Fr (Ow σ env) H H1 G0 H2 := f.mono fun _ z => z.elim
    have hlen : vs.length = ds.length := dpa_len hd
    refine ⟨a, vs, rfl, f.r.seq hl, fun n m σ' H' => m = ds.length - n ∧ n ≤ ds.length ∧ Pt K (Ow σ env) G0 H2 Inv n σ' H', ⟨ds.length, rfl, Nat.zero_le _, ⟨G0, Fr.refl f.r, by rw [h0]; exact st.mono f, fun l z => .inl (by rw [h0] at z; exact z)⟩⟩, ?_⟩
    rintro n m σ' H' ⟨rfl, hn, G, f2, st2, ow⟩
    have hq : SqL K H' a vs := f2.r.seq (f2.g.seq hl)
    by_cases hlt : n < ds.length
    · have hlt' : n < vs.length := by omega
      refine .inr ⟨⟨vs, vs[n], hq, List.getElem?_eq_getElem hlt'⟩, fun σ' H' => Pt K (Ow σ env) G0 H2 Inv (n + 1) σ' H', fun σ2 Hx p => ⟨ds.length - (n + 1), by omega, rfl, hlt, p⟩, fun x Hx y => ?_⟩
      obtain ⟨T, x', rfl, hT, rfl, hx⟩ := y
      obtain ⟨d, e1, e2⟩ := dpa_get hd (hx vs hq)
      obtain ⟨env', tg, g1⟩ := go n d e1
      have f3 : Fr0 G H' (upd G T (.tup [.int (n : Nat), x'])) (upd H' T (.tup [.int (n : Nat), x'])) := Fr.new f2.r hT
      have st3 := st2.mono f3
      have dT : Dp K (upd G T (.tup [.int (n : Nat), x'])) (.ref T) (.tuple [.int n, d]) := .tup (.inl (.inl upd_same)) (.cons (.int _) (.cons (dm (f2.g.trans f3.g) e2) .nil))
      refine tg σ' _ _ (.ref T) st3 dT _ fun σ2 st4 o3 => ?_
      have ow3 : ∀ l, Ow σ2 env' l → Ow σ env l ∨ H2 l = none := fun l z => ow l (o3 l z)
      have nx : ∀ σ3 G3 H3, Fr (Ow σ2 env') (upd G T (.tup [.int (n : Nat), x'])) (upd H' T (.tup [.int (n : Nat), x'])) G3 H3 → Stt K G3 H3 σ3 (Inv (n + 1)) → (∀ l, Ow σ3 (Inv (n + 1)) l → Ow σ2 env' l ∨ (upd H' T (.tup [.int (n : Nat), x'])) l = none) → Pt K (Ow σ env) G0 H2 Inv (n + 1) σ3 H3 := fun σ3 G3 H3 f4 st5 o4 =>
        ⟨G3, (f2.tr0 f3).trans f4 ow3, st5, fun l z => (o4 l z).elim (ow3 l) fun z => .inr (f2.m l (upd_none z))⟩
      rcases g1 with w | w
      · exact w σ2 _ _ st4 _ nx
      · exact w σ2 _ _ st4 _ nx
    · have en : n = ds.length := by omega
      subst en
      exact .inl ⟨⟨vs, hq, by omega⟩, q σ' G H' (f'.trans f2 fun l z => .inl z) st2 fun l z => (ow l z).elim .inl fun z => .inr (f.m l z)⟩
end
/-- list(..), named -/
abbrev rLstOf (K : PySem.W.Frag) : List V → Hp → VK → Prop := fun xs H Q => ∃ p ys, xs = [.ref p] ∧ (SqL K H p ys ∨ SqT K H p ys) ∧ ∀ l, H l = none → Q (.ref l) (upd H l (.lst ys))
theorem sx_outEn {K : PySem.W.Frag} {X : WX} {env : List SV} {c : Value} {tl : TE} {g : TG} {t : TS} (h : EvX K X tl env c) : Sx K X (tFor (iEnum K (tCons tl tNil)) g t) env (.ex c env) := fun σ H H1 st D q => h σ H H1 st _ fun G H2 f => q σ G H2 (f.mono fun _ z => z.elim) (st.mono f) fun l z => .inl z
end Pf
namespace Pf
open PySem PySem.Spec PyProof.Rows L2
theorem ev_notInD {K : PySem.W.Frag} {env : List SV} {ta tb : TE} {d : PyData} {ds : List PyData} (ha : Ev K ta env d) (hb : Ev K tb env (.list ds)) (f : SeqAt.shaped d = true) (g : SeqAt.shaped (.list ds) = true) : Ev K (tOp (rNotInD K) ta tb) env (.bool (!ds.any fun z => PyData.eqv z d)) :=
  ev_op ha hb fun x y H H1 Q s d1 d2 q => ⟨d, ds, dm s d1, dm s d2, f, g, q _ H H1 (Fr.refl s) (.bl _)⟩
end Pf
namespace Pf
open PySem PySem.Spec PyProof.Rows L2
/-- a, b = e1, e2 -/
theorem sx_par {K : PySem.W.Frag} {X : WX} {env : List SV} {i j : Nat} {aa : TA} {d e : PyData} (ha : EvA K aa env [d, e]) : Sx K X (tPar i j aa) env (.nx ((env.set i (.dat d)).set j (.dat e))) := fun σ H H1 st D q =>
  ha σ H H1 st _ fun vs G H2 f dv => by
    cases dv with
    | cons a b =>
      cases b with
      | cons b c =>
        cases c
        refine ⟨_, _, rfl, q _ G H2 (f.mono fun _ z => z.elim) (((st.mono f).setD a).setD b) fun l z => .inl ?_⟩
        rcases Ow.set z with z | ⟨z, _⟩
        · rcases Ow.set z with z | ⟨z, _⟩
          · exact z
          · cases z
        · cases z
end Pf

namespace MG
open PySem PySem.Spec PyProof.Rows L2 Pf
/-! ### the mazes as data -/
abbrev Door := Int × Int × Option Int
abbrev Key2 := Int × Int
structure Maze where
  n : Int
  ds : List Door
  ks : List Key2
def optD : Option Int → PyData
  | none => .none
  | some i => .int i
def doorD (d : Door) : PyData := .tuple [.int d.1, .int d.2.1, optD d.2.2]
def keyD (k : Key2) : PyData := .tuple [.int k.1, .int k.2]
def mazeD (m : Maze) : PyData := .tuple [.int m.n, .list (m.ds.map doorD), .list (m.ks.map keyD)]
def handD (l : List Int) : PyData := .tuple (l.map .int)
/-- the kinds that lie in the room, rising, each once -/
def insI (x : Int) : List Int → List Int
  | [] => [x]
  | y :: r => if x < y then x :: y :: r else if x = y then y :: r else y :: insI x r
def rise (l : List Int) : List Int := l.foldr insI []
theorem insI_mem {x k : Int} : ∀ {l : List Int}, k ∈ insI x l ↔ k = x ∨ k ∈ l
  | [] => by simp [insI]
  | y :: r => by
    unfold insI
    split
    · simp
    · split
      · rename_i h; subst h; simp
      · rw [List.mem_cons, insI_mem, List.mem_cons]
        constructor
        · rintro (h | h | h) <;> simp [h]
        · rintro (h | h | h) <;> simp [h]
theorem insI_up {x : Int} : ∀ {l : List Int}, l.Pairwise (· < ·) → (insI x l).Pairwise (· < ·)
  | [], _ => by simp [insI]
  | y :: r, h => by
    have h' := List.pairwise_cons.mp h
    unfold insI
    split
    · rename_i c
      refine List.pairwise_cons.mpr ⟨fun k hk => ?_, h⟩
      rcases List.mem_cons.mp hk with z | z
      · rw [z]; exact c
      · exact Int.lt_trans c (h'.1 k z)
    · split
      · exact h
      · rename_i c1 c2
        refine List.pairwise_cons.mpr ⟨fun k hk => ?_, insI_up h'.2⟩
        rcases insI_mem.mp hk with z | z
        · subst z; omega
        · exact h'.1 k z
theorem rise_mem {k : Int} : ∀ {l : List Int}, k ∈ rise l ↔ k ∈ l
  | [] => by simp [rise]
  | x :: r => by
    show k ∈ insI x (rise r) ↔ _
    rw [insI_mem, rise_mem, List.mem_cons]
theorem rise_up : ∀ (l : List Int), (rise l).Pairwise (· < ·)
  | [] => List.Pairwise.nil
  | x :: r => insI_up (rise_up r)
def keysAmong (ks : List Key2) (rs : List Int) : List Int := rise ((ks.filter fun k => decide (k.1 ∈ rs)).map (·.2))
def keysIn (ks : List Key2) (r : Int) : List Int := rise ((ks.filter fun k => decide (k.1 = r)).map (·.2))
def taken (ks : List Key2) (r : Int) (held : List Int) : List Int := rise (held ++ keysIn ks r)
def inRoom (n r : Int) : Prop := 0 ≤ r ∧ r < n
instance (n r : Int) : Decidable (inRoom n r) := by unfold inRoom; infer_instance
theorem ints_len {l : List Int} : (l.map PyData.int).length = l.length := List.length_map _
theorem atI_nat' {α : Type} {xs : List α} {j : Nat} {x : α} (h : xs[j]? = some x) : atI xs (j : Int) = some x := by
  have hj := (List.getElem?_eq_some_iff.mp h).1
  unfold atI ixN
  rw [if_pos (by omega), if_pos (by omega)]
  show xs[(j : Int).toNat]? = _
  rw [Int.toNat_natCast]; exact h
theorem atI_int {α : Type} {xs : List α} {i : Int} {x : α} (h0 : 0 ≤ i) (h : xs[i.toNat]? = some x) : atI xs i = some x := by
  have hj := (List.getElem?_eq_some_iff.mp h).1
  unfold atI ixN
  rw [if_pos h0, if_pos (by omega)]
  exact h
theorem eqv_int (i j : Int) : PyData.eqv (.int i) (.int j) = decide (i = j) := by
  by_cases h : i = j
  · subst h; simp [PyData.eqv]
  · rw [decide_eq_false h]; simp [PyData.eqv, h]
theorem ints_flat (l : List Int) : (l.map PyData.int).all flatD = true := by
  rw [List.all_eq_true]
  intro z hz
  obtain ⟨i, _, rfl⟩ := List.mem_map.mp hz; rfl
theorem ints_any (l : List Int) (k : Int) : ((l.map PyData.int).any fun z => eqF z (.int k)) = decide (k ∈ l) := by
  rw [Bool.eq_iff_iff, List.any_eq_true, decide_eq_true_eq]
  constructor
  · rintro ⟨z, hz, h⟩
    obtain ⟨i, hi, rfl⟩ := List.mem_map.mp hz
    have : i = k := of_decide_eq_true h
    rw [← this]; exact hi
  · intro h
    exact ⟨.int k, List.mem_map.mpr ⟨k, h, rfl⟩, decide_eq_true rfl⟩
local macro_rules
  | `(tactic| walk_at "ev1") => `(tactic| first
    | ((with_reducible apply ev_var); exact rfl)
    | ((with_reducible apply ev_c); exact rfl)
    | with_reducible apply ev_eqI
    | with_reducible apply ev_neI
    | with_reducible apply ev_I0
    | with_reducible apply ev_I
    | with_reducible apply ev_U
    | with_reducible apply ev_isN
    | with_reducible apply ev_notN
    | with_reducible apply ev_call
    | with_reducible apply ev_tup
    | with_reducible apply ev_lst
    | with_reducible apply ev_inT
    | with_reducible apply ev_niT
    | with_reducible apply ev_abs
    | with_reducible apply ev_intb
    | with_reducible apply ev_min2
    | with_reducible apply ev_max2
    | with_reducible apply ea_cons
    | with_reducible exact ea_nil
    | with_reducible apply ev_andV
    | with_reducible apply ev_orV
    | with_reducible apply ev_notV
    | with_reducible apply ev_if
    | with_reducible apply et_test
    | with_reducible apply et_B
    | with_reducible apply et_and
    | with_reducible apply et_or
    | with_reducible apply et_not
    | ((with_reducible apply el_var); exact rfl)
    | with_reducible intro _
    | (show vd _ = some _; rfl)
    | exact Nat.le_of_ble_eq_true rfl
    | (show flatD _ = true; rfl)
    | (show List.all _ flatD = true; rfl)
    | exact (cm1 ⟨by decide, by decide⟩)
    | exact (cm0 ⟨by decide, by decide⟩)
    | (show CDiv _ _; exact ⟨by decide, by decide⟩)
    | (show CPow _ _; exact ⟨by decide, by decide, by decide⟩))
local macro_rules
  | `(tactic| walk_at "ev") => `(tactic| repeat' walk_at "ev1")
local macro_rules
  | `(tactic| walk_at "less") => `(tactic| repeat' first
    | exact Less.nil
    | apply Less.keep
    | apply Less.drop)

def topS (i : Nat) : Stmt := PySem.Challenge.pw_mazeguide_k09_whole_walk_or_shut.main.body.getD i (.Pass ⟨0, 0, 0, 0⟩)
abbrev s_need_room : Stmt := topS 4
abbrev n_need_room : List PySem.Str := ["rooms", "room"]
theorem sc_need_room : FnScope n_need_room ["rooms", "room"] (defScope s_need_room) := ⟨rfl, rfl, rfl, by decide +kernel, rfl, by decide +kernel, by decide +kernel⟩
abbrev s_keys_in : Stmt := topS 5
abbrev n_keys_in : List PySem.Str := ["maze", "room"]
theorem sc_keys_in : FnScope n_keys_in ["maze", "room"] (defScope s_keys_in) := ⟨rfl, rfl, rfl, by decide +kernel, rfl, by decide +kernel, by decide +kernel⟩
abbrev s_keys_among : Stmt := topS 6
abbrev n_keys_among : List PySem.Str := ["maze", "rooms", "room", "kind"]
theorem sc_keys_among : FnScope n_keys_among ["maze", "rooms"] (defScope s_keys_among) := ⟨rfl, rfl, rfl, by decide +kernel, rfl, by decide +kernel, by decide +kernel⟩
abbrev s_taken : Stmt := topS 7
abbrev n_taken : List PySem.Str := ["maze", "room", "held"]
theorem sc_taken : FnScope n_taken ["maze", "room", "held"] (defScope s_taken) := ⟨rfl, rfl, rfl, by decide +kernel, rfl, by decide +kernel, by decide +kernel⟩
abbrev s_opens : Stmt := topS 9
abbrev n_opens : List PySem.Str := ["door", "held", "lock"]
theorem sc_opens : FnScope n_opens ["door", "held"] (defScope s_opens) := ⟨rfl, rfl, rfl, by decide +kernel, rfl, by decide +kernel, by decide +kernel⟩
abbrev s_steps : Stmt := topS 10
abbrev n_steps : List PySem.Str := ["maze", "room", "held", "rooms", "doors", "_", "states", "door", "there"]
theorem sc_steps : FnScope n_steps ["maze", "room", "held"] (defScope s_steps) := ⟨rfl, rfl, rfl, by decide +kernel, rfl, by decide +kernel, by decide +kernel⟩
abbrev s_far_end : Stmt := topS 11
abbrev n_far_end : List PySem.Str := ["door", "room", "one", "other", "_"]
theorem sc_far_end : FnScope n_far_end ["door", "room"] (defScope s_far_end) := ⟨rfl, rfl, rfl, by decide +kernel, rfl, by decide +kernel, by decide +kernel⟩
abbrev s_come : Stmt := topS 13
abbrev n_come : List PySem.Str := ["maze", "start", "reached", "ways"]
theorem sc_come : FnScope n_come ["maze", "start"] (defScope s_come) := ⟨rfl, rfl, rfl, by decide +kernel, rfl, by decide +kernel, by decide +kernel⟩
abbrev s_ways_out : Stmt := topS 14
abbrev n_ways_out : List PySem.Str := ["maze", "reached", "held", "ways", "door", "outside", "end"]
theorem sc_ways_out : FnScope n_ways_out ["maze", "reached"] (defScope s_ways_out) := ⟨rfl, rfl, rfl, by decide +kernel, rfl, by decide +kernel, by decide +kernel⟩
abbrev s_guide : Stmt := topS 15
abbrev n_guide : List PySem.Str := ["maze", "start", "goal", "reached"]
theorem sc_guide : FnScope n_guide ["maze", "start", "goal"] (defScope s_guide) := ⟨rfl, rfl, rfl, by decide +kernel, rfl, by decide +kernel, by decide +kernel⟩
abbrev s_least_walk : Stmt := topS 16
abbrev n_least_walk : List PySem.Str := ["maze", "start", "goal", "first", "states", "walks", "at", "room", "held", "state"]
theorem sc_least_walk : FnScope n_least_walk ["maze", "start", "goal"] (defScope s_least_walk) := ⟨rfl, rfl, rfl, by decide +kernel, rfl, by decide +kernel, by decide +kernel⟩
abbrev s_layers : Stmt := topS 18
abbrev n_layers : List PySem.Str := ["maze", "start", "layer", "found", "seen", "state", "behind", "room", "held"]
theorem sc_layers : FnScope n_layers ["maze", "start"] (defScope s_layers) := ⟨rfl, rfl, rfl, by decide +kernel, rfl, by decide +kernel, by decide +kernel⟩
abbrev s_l_mix : Stmt := topS 20
abbrev n_l_mix : List PySem.Str := ["_law_cell", "_law_k", "_law_number"]
theorem sc_l_mix : FnScope n_l_mix ["_law_cell", "_law_k"] (defScope s_l_mix) := ⟨rfl, rfl, rfl, by decide +kernel, rfl, by decide +kernel, by decide +kernel⟩
abbrev s_l_whole : Stmt := topS 21
abbrev n_l_whole : List PySem.Str := ["_law_found"]
theorem sc_l_whole : FnScope n_l_whole ["_law_found"] (defScope s_l_whole) := ⟨rfl, rfl, rfl, by decide +kernel, rfl, by decide +kernel, by decide +kernel⟩
abbrev s_l_cell_at : Stmt := topS 22
abbrev n_l_cell_at : List PySem.Str := ["_law_script", "_law_k"]
theorem sc_l_cell_at : FnScope n_l_cell_at ["_law_script", "_law_k"] (defScope s_l_cell_at) := ⟨rfl, rfl, rfl, by decide +kernel, rfl, by decide +kernel, by decide +kernel⟩
abbrev s_l_size : Stmt := topS 23
abbrev n_l_size : List PySem.Str := ["_law_script", "_law_first", "_law_number", "_law_some"]
theorem sc_l_size : FnScope n_l_size ["_law_script"] (defScope s_l_size) := ⟨rfl, rfl, rfl, by decide +kernel, rfl, by decide +kernel, by decide +kernel⟩
abbrev s_l_lock : Stmt := topS 24
abbrev n_l_lock : List PySem.Str := ["_law_number"]
theorem sc_l_lock : FnScope n_l_lock ["_law_number"] (defScope s_l_lock) := ⟨rfl, rfl, rfl, by decide +kernel, rfl, by decide +kernel, by decide +kernel⟩
abbrev s_l_rank : Stmt := topS 25
abbrev n_l_rank : List PySem.Str := ["_law_place", "_law_size_here"]
theorem sc_l_rank : FnScope n_l_rank ["_law_place", "_law_size_here"] (defScope s_l_rank) := ⟨rfl, rfl, rfl, by decide +kernel, rfl, by decide +kernel, by decide +kernel⟩
abbrev s_l_ranks : Stmt := topS 26
abbrev n_l_ranks : List PySem.Str := ["_law_first", "_law_size_here", "_law_number", "_law_name", "_law_made", "_law_one", "_law_other", "_law_rank_here", "_law_door"]
theorem sc_l_ranks : FnScope n_l_ranks ["_law_first", "_law_size_here"] (defScope s_l_ranks) := ⟨rfl, rfl, rfl, by decide +kernel, rfl, by decide +kernel, by decide +kernel⟩
abbrev s_l_many : Stmt := topS 27
abbrev n_l_many : List PySem.Str := ["_law_first", "_law_size_here", "_law_number", "_law_made", "_law_k", "_law_near", "_law_lock_here"]
theorem sc_l_many : FnScope n_l_many ["_law_first", "_law_size_here"] (defScope s_l_many) := ⟨rfl, rfl, rfl, by decide +kernel, rfl, by decide +kernel, by decide +kernel⟩
abbrev s_l_mixed : Stmt := topS 28
abbrev n_l_mixed : List PySem.Str := ["_law_first", "_law_size_here", "_law_number", "_law_made", "_law_k", "_law_lock_here", "_law_one"]
theorem sc_l_mixed : FnScope n_l_mixed ["_law_first", "_law_size_here"] (defScope s_l_mixed) := ⟨rfl, rfl, rfl, by decide +kernel, rfl, by decide +kernel, by decide +kernel⟩
abbrev s_l_built : Stmt := topS 29
abbrev n_l_built : List PySem.Str := ["_law_first", "_law_size_here", "_law_made", "_law_k", "_law_one", "_law_other", "_law_locks", "_law_turn"]
theorem sc_l_built : FnScope n_l_built ["_law_first", "_law_size_here"] (defScope s_l_built) := ⟨rfl, rfl, rfl, by decide +kernel, rfl, by decide +kernel, by decide +kernel⟩
abbrev s_l_doors : Stmt := topS 30
abbrev n_l_doors : List PySem.Str := ["_law_script", "_law_size_here", "_law_first", "_law_made", "_law_k", "_law_cell", "_law_one"]
theorem sc_l_doors : FnScope n_l_doors ["_law_script", "_law_size_here"] (defScope s_l_doors) := ⟨rfl, rfl, rfl, by decide +kernel, rfl, by decide +kernel, by decide +kernel⟩
abbrev s_l_lying : Stmt := topS 31
abbrev n_l_lying : List PySem.Str := ["_law_script", "_law_size_here", "_law_first", "_law_turn", "_law_made", "_law_k"]
theorem sc_l_lying : FnScope n_l_lying ["_law_script", "_law_size_here"] (defScope s_l_lying) := ⟨rfl, rfl, rfl, by decide +kernel, rfl, by decide +kernel, by decide +kernel⟩
abbrev s_l_taken : Stmt := topS 32
abbrev n_l_taken : List PySem.Str := ["_law_lying_here", "_law_room", "_law_held", "_law_made", "_law_kind"]
theorem sc_l_taken : FnScope n_l_taken ["_law_lying_here", "_law_room", "_law_held"] (defScope s_l_taken) := ⟨rfl, rfl, rfl, by decide +kernel, rfl, by decide +kernel, by decide +kernel⟩
abbrev s_l_steps : Stmt := topS 33
abbrev n_l_steps : List PySem.Str := ["_law_doors_here", "_law_lying_here", "_law_room", "_law_held", "_law_made", "_law_one", "_law_other", "_law_lock_here"]
theorem sc_l_steps : FnScope n_l_steps ["_law_doors_here", "_law_lying_here", "_law_room", "_law_held"] (defScope s_l_steps) := ⟨rfl, rfl, rfl, by decide +kernel, rfl, by decide +kernel, by decide +kernel⟩
abbrev s_l_hand : Stmt := topS 34
abbrev n_l_hand : List PySem.Str := ["_law_found", "_law_due", "_law_kind"]
theorem sc_l_hand : FnScope n_l_hand ["_law_found", "_law_due"] (defScope s_l_hand) := ⟨rfl, rfl, rfl, by decide +kernel, rfl, by decide +kernel, by decide +kernel⟩
abbrev s_l_walks : Stmt := topS 35
abbrev n_l_walks : List PySem.Str := ["_law_doors_here", "_law_lying_here", "_law_walk", "_law_start", "_law_goal_here", "_law_held", "_law_k", "_law_here", "_law_ways"]
theorem sc_l_walks : FnScope n_l_walks ["_law_doors_here", "_law_lying_here", "_law_walk", "_law_start", "_law_goal_here"] (defScope s_l_walks) := ⟨rfl, rfl, rfl, by decide +kernel, rfl, by decide +kernel, by decide +kernel⟩
abbrev s_l_is_state : Stmt := topS 36
abbrev n_l_is_state : List PySem.Str := ["_law_found"]
theorem sc_l_is_state : FnScope n_l_is_state ["_law_found"] (defScope s_l_is_state) := ⟨rfl, rfl, rfl, by decide +kernel, rfl, by decide +kernel, by decide +kernel⟩
abbrev s_l_none_shorter : Stmt := topS 37
abbrev n_l_none_shorter : List PySem.Str := ["_law_doors_here", "_law_lying_here", "_law_rows", "_law_first", "_law_goal_here", "_law_many_here", "_law_row", "_law_state", "_law_ahead", "_law_k", "_law_other"]
theorem sc_l_none_shorter : FnScope n_l_none_shorter ["_law_doors_here", "_law_lying_here", "_law_rows", "_law_first", "_law_goal_here", "_law_many_here"] (defScope s_l_none_shorter) := ⟨rfl, rfl, rfl, by decide +kernel, rfl, by decide +kernel, by decide +kernel⟩
abbrev s_l_shut : Stmt := topS 38
abbrev n_l_shut : List PySem.Str := ["_law_doors_here", "_law_lying_here", "_law_found", "_law_start", "_law_goal_here", "_law_rooms", "_law_held", "_law_keys", "_law_k", "_law_ways", "_law_one", "_law_other", "_law_lock_here"]
theorem sc_l_shut : FnScope n_l_shut ["_law_doors_here", "_law_lying_here", "_law_found", "_law_start", "_law_goal_here"] (defScope s_l_shut) := ⟨rfl, rfl, rfl, by decide +kernel, rfl, by decide +kernel, by decide +kernel⟩
abbrev s_l_goal : Stmt := topS 39
abbrev n_l_goal : List PySem.Str := ["_law_script", "_law_size_here", "_law_first"]
theorem sc_l_goal : FnScope n_l_goal ["_law_script", "_law_size_here"] (defScope s_l_goal) := ⟨rfl, rfl, rfl, by decide +kernel, rfl, by decide +kernel, by decide +kernel⟩
abbrev s_law : Stmt := topS 40
abbrev n_law : List PySem.Str := ["_law_script", "_law_size_here", "_law_doors_here", "_law_lying_here", "_law_start", "_law_goal_here", "_law_handed", "_law_found", "_law_first", "_law_told"]
theorem sc_law : FnScope n_law ["_law_script"] (defScope s_law) := ⟨rfl, rfl, rfl, by decide +kernel, rfl, by decide +kernel, by decide +kernel⟩
/-- where the top has put what -/
structure Ad where
  a_need_room : Addr
  d_need_room : FuncData
  a_keys_in : Addr
  d_keys_in : FuncData
  a_keys_among : Addr
  d_keys_among : FuncData
  a_taken : Addr
  d_taken : FuncData
  a_opens : Addr
  d_opens : FuncData
  a_steps : Addr
  d_steps : FuncData
  a_far_end : Addr
  d_far_end : FuncData
  a_come : Addr
  d_come : FuncData
  a_ways_out : Addr
  d_ways_out : FuncData
  a_guide : Addr
  d_guide : FuncData
  a_least_walk : Addr
  d_least_walk : FuncData
  a_layers : Addr
  d_layers : FuncData
  a_l_mix : Addr
  d_l_mix : FuncData
  a_l_whole : Addr
  d_l_whole : FuncData
  a_l_cell_at : Addr
  d_l_cell_at : FuncData
  a_l_size : Addr
  d_l_size : FuncData
  a_l_lock : Addr
  d_l_lock : FuncData
  a_l_rank : Addr
  d_l_rank : FuncData
  a_l_ranks : Addr
  d_l_ranks : FuncData
  a_l_many : Addr
  d_l_many : FuncData
  a_l_mixed : Addr
  d_l_mixed : FuncData
  a_l_built : Addr
  d_l_built : FuncData
  a_l_doors : Addr
  d_l_doors : FuncData
  a_l_lying : Addr
  d_l_lying : FuncData
  a_l_taken : Addr
  d_l_taken : FuncData
  a_l_steps : Addr
  d_l_steps : FuncData
  a_l_hand : Addr
  d_l_hand : FuncData
  a_l_walks : Addr
  d_l_walks : FuncData
  a_l_is_state : Addr
  d_l_is_state : FuncData
  a_l_none_shorter : Addr
  d_l_none_shorter : FuncData
  a_l_shut : Addr
  d_l_shut : FuncData
  a_l_goal : Addr
  d_l_goal : FuncData
  a_law : Addr
  d_law : FuncData
  c_MazeError : Addr
  c_NoRoom : Addr
structure Txt (K : PySem.W.Frag) (mg : PySem.Str → Option Value) (A : Ad) : Prop where
  g_need_room : mg "need_room" = some (.ref A.a_need_room)
  f_need_room : Fun K "need_room" "need_room" s_need_room A.a_need_room A.d_need_room
  g_keys_in : mg "keys_in" = some (.ref A.a_keys_in)
  f_keys_in : Fun K "keys_in" "keys_in" s_keys_in A.a_keys_in A.d_keys_in
  g_keys_among : mg "keys_among" = some (.ref A.a_keys_among)
  f_keys_among : Fun K "keys_among" "keys_among" s_keys_among A.a_keys_among A.d_keys_among
  g_taken : mg "taken" = some (.ref A.a_taken)
  f_taken : Fun K "taken" "taken" s_taken A.a_taken A.d_taken
  g_opens : mg "opens" = some (.ref A.a_opens)
  f_opens : Fun K "opens" "opens" s_opens A.a_opens A.d_opens
  g_steps : mg "steps" = some (.ref A.a_steps)
  f_steps : Fun K "steps" "steps" s_steps A.a_steps A.d_steps
  g_far_end : mg "far_end" = some (.ref A.a_far_end)
  f_far_end : Fun K "far_end" "far_end" s_far_end A.a_far_end A.d_far_end
  g_come : mg "come" = some (.ref A.a_come)
  f_come : Fun K "come" "come" s_come A.a_come A.d_come
  g_ways_out : mg "ways_out" = some (.ref A.a_ways_out)
  f_ways_out : Fun K "ways_out" "ways_out" s_ways_out A.a_ways_out A.d_ways_out
  g_guide : mg "guide" = some (.ref A.a_guide)
  f_guide : Fun K "guide" "guide" s_guide A.a_guide A.d_guide
  g_least_walk : mg "least_walk" = some (.ref A.a_least_walk)
  f_least_walk : Fun K "least_walk" "least_walk" s_least_walk A.a_least_walk A.d_least_walk
  g_layers : mg "layers" = some (.ref A.a_layers)
  f_layers : Fun K "layers" "layers" s_layers A.a_layers A.d_layers
  g_l_mix : mg "_law_mix" = some (.ref A.a_l_mix)
  f_l_mix : Fun K "_law_mix" "_law_mix" s_l_mix A.a_l_mix A.d_l_mix
  g_l_whole : mg "_law_whole" = some (.ref A.a_l_whole)
  f_l_whole : Fun K "_law_whole" "_law_whole" s_l_whole A.a_l_whole A.d_l_whole
  g_l_cell_at : mg "_law_cell_at" = some (.ref A.a_l_cell_at)
  f_l_cell_at : Fun K "_law_cell_at" "_law_cell_at" s_l_cell_at A.a_l_cell_at A.d_l_cell_at
  g_l_size : mg "_law_size" = some (.ref A.a_l_size)
  f_l_size : Fun K "_law_size" "_law_size" s_l_size A.a_l_size A.d_l_size
  g_l_lock : mg "_law_lock" = some (.ref A.a_l_lock)
  f_l_lock : Fun K "_law_lock" "_law_lock" s_l_lock A.a_l_lock A.d_l_lock
  g_l_rank : mg "_law_rank" = some (.ref A.a_l_rank)
  f_l_rank : Fun K "_law_rank" "_law_rank" s_l_rank A.a_l_rank A.d_l_rank
  g_l_ranks : mg "_law_ranks" = some (.ref A.a_l_ranks)
  f_l_ranks : Fun K "_law_ranks" "_law_ranks" s_l_ranks A.a_l_ranks A.d_l_ranks
  g_l_many : mg "_law_many" = some (.ref A.a_l_many)
  f_l_many : Fun K "_law_many" "_law_many" s_l_many A.a_l_many A.d_l_many
  g_l_mixed : mg "_law_mixed" = some (.ref A.a_l_mixed)
  f_l_mixed : Fun K "_law_mixed" "_law_mixed" s_l_mixed A.a_l_mixed A.d_l_mixed
  g_l_built : mg "_law_built" = some (.ref A.a_l_built)
  f_l_built : Fun K "_law_built" "_law_built" s_l_built A.a_l_built A.d_l_built
  g_l_doors : mg "_law_doors" = some (.ref A.a_l_doors)
  f_l_doors : Fun K "_law_doors" "_law_doors" s_l_doors A.a_l_doors A.d_l_doors
  g_l_lying : mg "_law_lying" = some (.ref A.a_l_lying)
  f_l_lying : Fun K "_law_lying" "_law_lying" s_l_lying A.a_l_lying A.d_l_lying
  g_l_taken : mg "_law_taken" = some (.ref A.a_l_taken)
  f_l_taken : Fun K "_law_taken" "_law_taken" s_l_taken A.a_l_taken A.d_l_taken
  g_l_steps : mg "_law_steps" = some (.ref A.a_l_steps)
  f_l_steps : Fun K "_law_steps" "_law_steps" s_l_steps A.a_l_steps A.d_l_steps
  g_l_hand : mg "_law_hand" = some (.ref A.a_l_hand)
  f_l_hand : Fun K "_law_hand" "_law_hand" s_l_hand A.a_l_hand A.d_l_hand
  g_l_walks : mg "_law_walks" = some (.ref A.a_l_walks)
  f_l_walks : Fun K "_law_walks" "_law_walks" s_l_walks A.a_l_walks A.d_l_walks
  g_l_is_state : mg "_law_is_state" = some (.ref A.a_l_is_state)
  f_l_is_state : Fun K "_law_is_state" "_law_is_state" s_l_is_state A.a_l_is_state A.d_l_is_state
  g_l_none_shorter : mg "_law_none_shorter" = some (.ref A.a_l_none_shorter)
  f_l_none_shorter : Fun K "_law_none_shorter" "_law_none_shorter" s_l_none_shorter A.a_l_none_shorter A.d_l_none_shorter
  g_l_shut : mg "_law_shut" = some (.ref A.a_l_shut)
  f_l_shut : Fun K "_law_shut" "_law_shut" s_l_shut A.a_l_shut A.d_l_shut
  g_l_goal : mg "_law_goal" = some (.ref A.a_l_goal)
  f_l_goal : Fun K "_law_goal" "_law_goal" s_l_goal A.a_l_goal A.d_l_goal
  g_law : mg "law" = some (.ref A.a_law)
  f_law : Fun K "law" "law" s_law A.a_law A.d_law
  g_MazeError : mg "MazeError" = some (.ref A.c_MazeError)
  x_MazeError : PySem.W.excIn K A.c_MazeError [.type "ValueError", .type "Exception", .type "BaseException", .type "object"] "ValueError.__new__" = true
  k_MazeError : PySem.W.keepIn K (.ref A.c_MazeError) = true
  b_MazeError : PySem.W.subIn K (.ref A.c_MazeError) (.type "BaseException") = some true
  t_MazeError : PySem.W.typeIn K (.ref A.c_MazeError) = some (.type "type")
  i_MazeError : PySem.W.isClsIn K A.c_MazeError = true
  g_NoRoom : mg "NoRoom" = some (.ref A.c_NoRoom)
  x_NoRoom : PySem.W.excIn K A.c_NoRoom [.type "ValueError", .type "Exception", .type "BaseException", .type "object"] "ValueError.__new__" = true
  k_NoRoom : PySem.W.keepIn K (.ref A.c_NoRoom) = true
  b_NoRoom : PySem.W.subIn K (.ref A.c_NoRoom) (.type "BaseException") = some true
  t_NoRoom : PySem.W.typeIn K (.ref A.c_NoRoom) = some (.type "type")
  i_NoRoom : PySem.W.isClsIn K A.c_NoRoom = true
  s_NoRoom_NoRoom : PySem.W.subIn K (.ref A.c_NoRoom) (.ref A.c_NoRoom) = some true
  u_bool : mg "bool" = none
  u_int : mg "int" = none
  u_isinstance : mg "isinstance" = none
  u_len : mg "len" = none
  u_list : mg "list" = none
  u_min : mg "min" = none
  u_range : mg "range" = none
  u_set : mg "set" = none
  u_sorted : mg "sorted" = none
  u_tuple : mg "tuple" = none
section
variable {P : Program} {w : World} {K : PySem.W.Frag} {mg : PySem.Str → Option Value} {base : Heap} {A : Ad}
theorem b_need_room (T : Txt K mg A) : Binds K A.d_need_room ["rooms", "room"] [] := T.f_need_room.binds fun _ _ _ _ _ _ us hl => match us, hl with | [_, _], _ => rfl
theorem b_keys_in (T : Txt K mg A) : Binds K A.d_keys_in ["maze", "room"] [] := T.f_keys_in.binds fun _ _ _ _ _ _ us hl => match us, hl with | [_, _], _ => rfl
theorem b_keys_among (T : Txt K mg A) : Binds K A.d_keys_among ["maze", "rooms"] [] := T.f_keys_among.binds fun _ _ _ _ _ _ us hl => match us, hl with | [_, _], _ => rfl
theorem b_taken (T : Txt K mg A) : Binds K A.d_taken ["maze", "room", "held"] [] := T.f_taken.binds fun _ _ _ _ _ _ us hl => match us, hl with | [_, _, _], _ => rfl
theorem b_opens (T : Txt K mg A) : Binds K A.d_opens ["door", "held"] [] := T.f_opens.binds fun _ _ _ _ _ _ us hl => match us, hl with | [_, _], _ => rfl
theorem b_steps (T : Txt K mg A) : Binds K A.d_steps ["maze", "room", "held"] [] := T.f_steps.binds fun _ _ _ _ _ _ us hl => match us, hl with | [_, _, _], _ => rfl
theorem b_far_end (T : Txt K mg A) : Binds K A.d_far_end ["door", "room"] [] := T.f_far_end.binds fun _ _ _ _ _ _ us hl => match us, hl with | [_, _], _ => rfl
theorem b_come (T : Txt K mg A) : Binds K A.d_come ["maze", "start"] [] := T.f_come.binds fun _ _ _ _ _ _ us hl => match us, hl with | [_, _], _ => rfl
theorem b_ways_out (T : Txt K mg A) : Binds K A.d_ways_out ["maze", "reached"] [] := T.f_ways_out.binds fun _ _ _ _ _ _ us hl => match us, hl with | [_, _], _ => rfl
theorem b_guide (T : Txt K mg A) : Binds K A.d_guide ["maze", "start", "goal"] [] := T.f_guide.binds fun _ _ _ _ _ _ us hl => match us, hl with | [_, _, _], _ => rfl
theorem b_least_walk (T : Txt K mg A) : Binds K A.d_least_walk ["maze", "start", "goal"] [] := T.f_least_walk.binds fun _ _ _ _ _ _ us hl => match us, hl with | [_, _, _], _ => rfl
theorem b_layers (T : Txt K mg A) : Binds K A.d_layers ["maze", "start"] [] := T.f_layers.binds fun _ _ _ _ _ _ us hl => match us, hl with | [_, _], _ => rfl
theorem b_l_mix (T : Txt K mg A) : Binds K A.d_l_mix ["_law_cell", "_law_k"] [] := T.f_l_mix.binds fun _ _ _ _ _ _ us hl => match us, hl with | [_, _], _ => rfl
theorem b_l_whole (T : Txt K mg A) : Binds K A.d_l_whole ["_law_found"] [] := T.f_l_whole.binds fun _ _ _ _ _ _ us hl => match us, hl with | [_], _ => rfl
theorem b_l_cell_at (T : Txt K mg A) : Binds K A.d_l_cell_at ["_law_script", "_law_k"] [] := T.f_l_cell_at.binds fun _ _ _ _ _ _ us hl => match us, hl with | [_, _], _ => rfl
theorem b_l_size (T : Txt K mg A) : Binds K A.d_l_size ["_law_script"] [] := T.f_l_size.binds fun _ _ _ _ _ _ us hl => match us, hl with | [_], _ => rfl
theorem b_l_lock (T : Txt K mg A) : Binds K A.d_l_lock ["_law_number"] [] := T.f_l_lock.binds fun _ _ _ _ _ _ us hl => match us, hl with | [_], _ => rfl
theorem b_l_rank (T : Txt K mg A) : Binds K A.d_l_rank ["_law_place", "_law_size_here"] [] := T.f_l_rank.binds fun _ _ _ _ _ _ us hl => match us, hl with | [_, _], _ => rfl
theorem b_l_ranks (T : Txt K mg A) : Binds K A.d_l_ranks ["_law_first", "_law_size_here"] [] := T.f_l_ranks.binds fun _ _ _ _ _ _ us hl => match us, hl with | [_, _], _ => rfl
theorem b_l_many (T : Txt K mg A) : Binds K A.d_l_many ["_law_first", "_law_size_here"] [] := T.f_l_many.binds fun _ _ _ _ _ _ us hl => match us, hl with | [_, _], _ => rfl
theorem b_l_mixed (T : Txt K mg A) : Binds K A.d_l_mixed ["_law_first", "_law_size_here"] [] := T.f_l_mixed.binds fun _ _ _ _ _ _ us hl => match us, hl with | [_, _], _ => rfl
theorem b_l_built (T : Txt K mg A) : Binds K A.d_l_built ["_law_first", "_law_size_here"] [] := T.f_l_built.binds fun _ _ _ _ _ _ us hl => match us, hl with | [_, _], _ => rfl
theorem b_l_doors (T : Txt K mg A) : Binds K A.d_l_doors ["_law_script", "_law_size_here"] [] := T.f_l_doors.binds fun _ _ _ _ _ _ us hl => match us, hl with | [_, _], _ => rfl
theorem b_l_lying (T : Txt K mg A) : Binds K A.d_l_lying ["_law_script", "_law_size_here"] [] := T.f_l_lying.binds fun _ _ _ _ _ _ us hl => match us, hl with | [_, _], _ => rfl
theorem b_l_taken (T : Txt K mg A) : Binds K A.d_l_taken ["_law_lying_here", "_law_room", "_law_held"] [] := T.f_l_taken.binds fun _ _ _ _ _ _ us hl => match us, hl with | [_, _, _], _ => rfl
theorem b_l_steps (T : Txt K mg A) : Binds K A.d_l_steps ["_law_doors_here", "_law_lying_here", "_law_room", "_law_held"] [] := T.f_l_steps.binds fun _ _ _ _ _ _ us hl => match us, hl with | [_, _, _, _], _ => rfl
theorem b_l_hand (T : Txt K mg A) : Binds K A.d_l_hand ["_law_found", "_law_due"] [] := T.f_l_hand.binds fun _ _ _ _ _ _ us hl => match us, hl with | [_, _], _ => rfl
theorem b_l_walks (T : Txt K mg A) : Binds K A.d_l_walks ["_law_doors_here", "_law_lying_here", "_law_walk", "_law_start", "_law_goal_here"] [] := T.f_l_walks.binds fun _ _ _ _ _ _ us hl => match us, hl with | [_, _, _, _, _], _ => rfl
theorem b_l_is_state (T : Txt K mg A) : Binds K A.d_l_is_state ["_law_found"] [] := T.f_l_is_state.binds fun _ _ _ _ _ _ us hl => match us, hl with | [_], _ => rfl
theorem b_l_none_shorter (T : Txt K mg A) : Binds K A.d_l_none_shorter ["_law_doors_here", "_law_lying_here", "_law_rows", "_law_first", "_law_goal_here", "_law_many_here"] [] := T.f_l_none_shorter.binds fun _ _ _ _ _ _ us hl => match us, hl with | [_, _, _, _, _, _], _ => rfl
theorem b_l_shut (T : Txt K mg A) : Binds K A.d_l_shut ["_law_doors_here", "_law_lying_here", "_law_found", "_law_start", "_law_goal_here"] [] := T.f_l_shut.binds fun _ _ _ _ _ _ us hl => match us, hl with | [_, _, _, _, _], _ => rfl
theorem b_l_goal (T : Txt K mg A) : Binds K A.d_l_goal ["_law_script", "_law_size_here"] [] := T.f_l_goal.binds fun _ _ _ _ _ _ us hl => match us, hl with | [_, _], _ => rfl
theorem b_law (T : Txt K mg A) : Binds K A.d_law ["_law_script"] [] := T.f_law.binds fun _ _ _ _ _ _ us hl => match us, hl with | [_], _ => rfl
/-! how many kinds there may be -/
theorem up_short : ∀ {l : List Int} {a b : Int}, l.Pairwise (· < ·) → (∀ x ∈ l, a ≤ x ∧ x < b) → (l.length : Int) ≤ (if a ≤ b then b - a else 0)
  | [], a, b, _, _ => by
    show (0 : Int) ≤ _
    split <;> omega
  | x :: r, a, b, h, k => by
    have h' := List.pairwise_cons.mp h
    obtain ⟨k1, k2⟩ := k x List.mem_cons_self
    have ih := up_short (a := x + 1) (b := b) h'.2 fun y hy => ⟨by have := h'.1 y hy; omega, (k y (List.mem_cons_of_mem _ hy)).2⟩
    rw [List.length_cons]
    rw [if_pos (by omega)] at ih ⊢
    omega
/-- keys of the five kinds, at most sixty -/
def okKeys (ks : List Key2) : Prop := ks.length ≤ 60 ∧ ∀ k ∈ ks, 0 ≤ k.2 ∧ k.2 < 5
theorem keysIn_kind {ks : List Key2} (h : okKeys ks) {r : Int} : ∀ x ∈ keysIn ks r, 0 ≤ x ∧ x < 5 := fun x hx => by
  unfold keysIn at hx
  rw [rise_mem] at hx
  obtain ⟨k, hk, rfl⟩ := List.mem_map.mp hx
  exact h.2 k (List.mem_filter.mp hk).1
theorem keysIn_len {ks : List Key2} (h : okKeys ks) {r : Int} : (keysIn ks r).length ≤ 5 := by
  have := up_short (rise_up _) (keysIn_kind h (r := r))
  rw [if_pos (by decide)] at this
  have e : keysIn ks r = rise ((ks.filter fun k => decide (k.1 = r)).map (·.2)) := rfl
  rw [e]; omega

/-! need_room -/
def R_need_room (ds : List PyData) (d : PyData) : Prop := ∃ n r : Int, inRoom n r ∧ ds = [.int n, .int r] ∧ d = .none
def B_need_room (A : Ad) (ds : List PyData) (c : Value) : Prop := ∃ n r : Int, ¬ inRoom n r ∧ ds = [.int n, .int r] ∧ c = .ref A.c_NoRoom
theorem ok_need_room (T : Txt K mg A) : FnOk P w K mg base (L2.CX P w) 1 A.a_need_room A.d_need_room ["rooms", "room"] (spX K R_need_room (B_need_room A)) := by
  refine T.f_need_room.okX sc_need_room (fun vs H Q E h => ?_) (fun cdv Ar outer s H vs Q E hr h => ?_)
  · obtain ⟨H0, ds, sm, dv, ⟨d, ⟨n, r, _, rfl, _⟩, _⟩ | ⟨c, ⟨n, r, _, rfl, _⟩, _⟩⟩ := h <;> exact dpa_len dv
  obtain ⟨H0, ds, sm, dv, hh⟩ := h
  refine ⟨_, (pss_one (ps_if (PW.pt (pw_or (pt_cmpR op_lt (pv 1) pe_int (nomark _)) (pw_or1 (pt_cmpR op_ge (pv 1) (pv 0) (nomark _))))) (pss_one (ps_raise rfl (takes_of rfl rfl rfl rfl) (pmk_own PySem.F.excBase_ValueError T.x_NoRoom T.g_NoRoom T.k_NoRoom (raises_own T.b_NoRoom T.t_NoRoom) rfl))) pss_nil)), ?_⟩
  rcases hh with ⟨d, ⟨n, r, hr0, rfl, rfl⟩, q⟩ | ⟨c, ⟨n, r, hr0, rfl, rfl⟩, q⟩
  · refine Pf.run (X := fun cls d _ H => E cls d H) (oc := .nx [.dat (.int n), .dat (.int r)]) sm dv rfl ?_ (fun σ G H2 f _ _ => q _ G H2 f .non)
    refine sx_no (EvT.is (b := decide (r < 0) || decide (n ≤ r)) ?_ ?_) sx_next
    · walk_at "ev"
    · unfold inRoom at hr0
      rw [decide_eq_false (by omega), decide_eq_false (by omega)]; rfl
  · refine Pf.run (X := fun cls d _ H => E cls d H) (oc := .ex (.ref A.c_NoRoom) [.dat (.int n), .dat (.int r)]) sm dv rfl ?_ (fun σ G H2 f _ _ => q G H2 f)
    refine sx_yes (EvT.is (b := decide (r < 0) || decide (n ≤ r)) ?_ ?_) (fun σ H H1 st D q => q σ H H1 (Fr.refl st.e) st fun l z => .inl z)
    · walk_at "ev"
    · unfold inRoom at hr0
      rw [Bool.or_eq_true, decide_eq_true_eq, decide_eq_true_eq]; omega

/-! keys_among, keys_in -/
def R_keys_among (ds : List PyData) (d : PyData) : Prop := ∃ (m : Maze) (rs : List Int), m.ks.length ≤ 60 ∧ ds = [mazeD m, .list (rs.map .int)] ∧ d = handD (keysAmong m.ks rs)
theorem ok_keys_among (T : Txt K mg A) : FnOk P w K mg base CX0 1 A.a_keys_among A.d_keys_among ["maze", "rooms"] (spG K R_keys_among) := by
  refine T.f_keys_among.ok sc_keys_among (fun vs H Q E h => ?_) (fun cdv Ar outer s H vs Q E hr h => ?_)
  · obtain ⟨H0, ds, d, sm, dv, ⟨m, rs, _, rfl, _⟩, _⟩ := h; exact dpa_len dv
  obtain ⟨H0, ds, d, sm, dv, ⟨m, rs, hk, rfl, rfl⟩, q⟩ := h
  refine ⟨_, (pss_one (ps_ret (pe_callTy call_tuple_of (by rfl) T.u_tuple (by decide +kernel) (pa_cons (pe_callB (cr_sortedSet rfl) (by rfl) T.u_sorted (by decide +kernel) (pa_cons (pe_si (own := [("room", 2), ("kind", 3)]) (g := gTup _ 2 (gCons (gName 2) (gCons (gName 3) gNil))) rfl sc_keys_among.nd (pi_list (pe_ix (r := rIxT K) (by exact ix_tup) (pv 0) pe_int (fun _ _ => rfl))) (blkOk_by (own := [("room", 2), ("kind", 3)]) (N := n_keys_among) (sc := defScope s_keys_among) (by decide +kernel))
        (fun _ _ _ _ _ => (pg_tup rfl (pgs_cons (pg_name (i := 2) sc_keys_among.nd rfl (Or.inl rfl)) (pgs_cons (pg_name (i := 3) sc_keys_among.nd rfl (Or.inl rfl)) pgs_nil)))) (fun _ _ _ _ _ => (pts_one (pt_cmpR (r := rIn K false) (by exact op_in_seq) (pv 2) (pv 1) (by rfl)))) (fun _ _ _ _ _ => (pv 3))) pa_nil)) pa_nil)))), ?_⟩
  refine Pf.run (X := fun _ _ _ _ => False) (oc := .rt (handD (keysAmong m.ks rs))) sm dv rfl ?_ q
  refine sx_ret (ev_tuple (EvO.l (eo_sortedS (L := keysAmong m.ks rs) (es_si (α := Key2) m.ks keyD (fun k => decide (k.1 ∈ rs)) (·.2) (ev_ixT (ds := [.int m.n, .list (m.ds.map doorD), .list (m.ks.map keyD)]) (ev_var rfl) (ev_c rfl) rfl) (by omega) fun x _ => ?_) (by omega) (rise_up _) fun k => ?_)))
  · refine ⟨_, tgw_tup (tgsw_cons (tgw_name (by decide)) (tgsw_cons (tgw_name (by decide)) tgsw_nil)) rfl, ?_, fun _ => ev_var rfl⟩
    exact et_test ((ev_inL (ds := rs.map .int) (ev_var rfl) (ev_var rfl) rfl (ints_flat _)).is (by rw [ints_any]))
  · rw [decide_eq_true_eq]; exact rise_mem

theorem keysAmong_one (ks : List Key2) (r : Int) : keysAmong ks [r] = keysIn ks r := by
  unfold keysAmong keysIn
  congr 3
  funext k
  exact decide_eq_decide.mpr List.mem_singleton
def R_keys_in (ds : List PyData) (d : PyData) : Prop := ∃ (m : Maze) (r : Int), (m.ks.length ≤ 60 ∧ inRoom m.n r) ∧ ds = [mazeD m, .int r] ∧ d = handD (keysIn m.ks r)
def B_keys_in (A : Ad) (ds : List PyData) (c : Value) : Prop := ∃ (m : Maze) (r : Int), ¬ inRoom m.n r ∧ ds = [mazeD m, .int r] ∧ c = .ref A.c_NoRoom
theorem tg_maze {K : PySem.W.Frag} {env : List SV} {m : Maze} {a b c : Nat} : Tg K (gTup K 3 (gCons (gName a) (gCons (gName b) (gCons (gName c) gNil)))) env (mazeD m) (((env.set a (.dat (.int m.n))).set b (.dat (.list (m.ds.map doorD)))).set c (.dat (.list (m.ks.map keyD)))) :=
  tg_tup (tgs_cons tg_name (tgs_cons tg_name (tgs_cons tg_name tgs_nil))) rfl
theorem ok_keys_in (T : Txt K mg A) : FnOk P w K mg base (L2.CX P w) 2 A.a_keys_in A.d_keys_in ["maze", "room"] (spX K R_keys_in (B_keys_in A)) := by
  refine T.f_keys_in.okX sc_keys_in (fun vs H Q E h => ?_) (fun cdv Ar outer s H vs Q E hr h => ?_)
  · obtain ⟨H0, ds, sm, dv, ⟨d, ⟨n, r, _, rfl, _⟩, _⟩ | ⟨c, ⟨n, r, _, rfl, _⟩, _⟩⟩ := h <;> exact dpa_len dv
  obtain ⟨H0, ds, sm, dv, hh⟩ := h
  refine ⟨_, (pss_cons (ps_expr (pe_callS (ok_need_room T) (hr.mono (by decide)) rfl T.g_need_room T.f_need_room.kp (b_need_room T) (fun σ => passAt (takes_of rfl rfl rfl rfl) σ) (pa_cons (pe_ix (r := rIxT K) (by exact ix_tup) (pv 0) pe_int (fun _ _ => rfl)) (pa_cons (pv 1) pa_nil))))
      (pss_one (ps_ret (pe_callS (E := fun _ => E0) (ok_keys_among T) (hr.mono (by decide)) rfl T.g_keys_among T.f_keys_among.kp (b_keys_among T) (fun σ => pass0S) (pa_cons (pv 0) (pa_cons (pe_lst (pa_cons (pv 1) pa_nil)) pa_nil)))))), ?_⟩
  have first : ∀ {m : Maze} {r : Int}, EvA K (tCons (tOp (rIxT K) (tVar 0) (tC (.int 0))) (tCons (tVar 1) tNil)) [.dat (mazeD m), .dat (.int r)] [.int m.n, .int r] := fun {m r} => ea_cons (ev_ixT (ds := [.int m.n, .list (m.ds.map doorD), .list (m.ks.map keyD)]) (ev_var rfl) (ev_c rfl) rfl) (ea_cons (ev_var rfl) ea_nil)
  rcases hh with ⟨d, ⟨m, r, ⟨hk, hr0⟩, rfl, rfl⟩, q⟩ | ⟨c, ⟨m, r, hr0, rfl, rfl⟩, q⟩
  · refine Pf.run (X := fun cls d _ H => E cls d H) (oc := .rt (handD (keysIn m.ks r))) sm dv rfl ?_ q
    refine sx_seq (sx_drop (ev_callX first ⟨m.n, r, hr0, rfl, rfl⟩)) ?_
    exact sx_ret (ev_call (ea_cons (ev_var rfl) (ea_cons (ev_lst (ds := [.int r]) (ea_cons (ev_var rfl) ea_nil) (Nat.le_of_ble_eq_true rfl)) ea_nil)) ⟨m, [r], hk, rfl, by rw [keysAmong_one]⟩)
  · refine Pf.run (X := fun cls d _ H => E cls d H) (oc := .ex (.ref A.c_NoRoom) [.dat (mazeD m), .dat (.int r)]) sm dv rfl ?_ (fun σ G H2 f _ _ => q G H2 f)
    exact sx_end (sx_outD (evx_call first ⟨m.n, r, hr0, rfl, rfl⟩)) rfl

/-! taken -/
def R_taken (ds : List PyData) (d : PyData) : Prop := ∃ (m : Maze) (r : Int) (held : List Int), (okKeys m.ks ∧ held.length ≤ 50 ∧ inRoom m.n r) ∧ ds = [mazeD m, .int r, handD held] ∧ d = handD (taken m.ks r held)
def B_taken (A : Ad) (ds : List PyData) (c : Value) : Prop := ∃ (m : Maze) (r : Int) (held : List Int), ¬ inRoom m.n r ∧ ds = [mazeD m, .int r, handD held] ∧ c = .ref A.c_NoRoom
theorem ok_taken (T : Txt K mg A) : FnOk P w K mg base (L2.CX P w) 3 A.a_taken A.d_taken ["maze", "room", "held"] (spX K R_taken (B_taken A)) := by
  refine T.f_taken.okX sc_taken (fun vs H Q E h => ?_) (fun cdv Ar outer s H vs Q E hr h => ?_)
  · obtain ⟨H0, ds, sm, dv, ⟨d, ⟨m, r, held, _, rfl, _⟩, _⟩ | ⟨c, ⟨m, r, held, _, rfl, _⟩, _⟩⟩ := h <;> exact dpa_len dv
  obtain ⟨H0, ds, sm, dv, hh⟩ := h
  refine ⟨_, (pss_one (ps_ret (pe_callTy call_tuple_of (by rfl) T.u_tuple (by decide +kernel) (pa_cons (pe_callB (cr_sortedSet rfl) (by rfl) T.u_sorted (by decide +kernel) (pa_cons (pe_callTy (cr_setT rfl) (by rfl) T.u_set (by decide +kernel) (pa_cons (pe_op (r := rCatA K) (by exact op_catA) (pv 2) (pe_callS (ok_keys_in T) (hr.mono (by decide)) rfl T.g_keys_in T.f_keys_in.kp (b_keys_in T) (fun σ => passAt (takes_of rfl rfl rfl rfl) σ) (pa_cons (pv 0) (pa_cons (pv 1) pa_nil)))) pa_nil)) pa_nil)) pa_nil)))), ?_⟩
  rcases hh with ⟨d, ⟨m, r, held, ⟨hk, hh, hr0⟩, rfl, rfl⟩, q⟩ | ⟨c, ⟨m, r, held, hr0, rfl, rfl⟩, q⟩
  · refine Pf.run (X := fun cls d _ H => E cls d H) (oc := .rt (handD (taken m.ks r held))) sm dv rfl ?_ q
    have hl := keysIn_len hk (r := r)
    refine sx_ret (ev_tuple (EvO.l (eo_sortedS (L := taken m.ks r held) (es_setT (ns := held ++ keysIn m.ks r) ((ev_catT (ev_var rfl) (ev_callX (ea_cons (ev_var rfl) (ea_cons (ev_var rfl) ea_nil)) ⟨m, r, ⟨hk.1, hr0⟩, rfl, rfl⟩) ?_).is ?_) ?_) ?_ (rise_up _) fun k => ?_)))
    · rw [List.length_map, List.length_map]; omega
    · rw [List.map_append]
    · rw [List.length_append]; omega
    · rw [List.length_append]; omega
    · rw [decide_eq_true_eq]; exact rise_mem
  · refine Pf.run (X := fun cls d _ H => E cls d H) (oc := .ex (.ref A.c_NoRoom) [.dat (mazeD m), .dat (.int r), .dat (handD held)]) sm dv rfl ?_ (fun σ G H2 f _ _ => q G H2 f)
    exact sx_outR (evx_cb (evx_head (evx_cb (evx_head (evx_cb (evx_head (evx_op2 (ev_var rfl) (evx_call (ea_cons (ev_var rfl) (ea_cons (ev_var rfl) ea_nil)) ⟨m, r, hr0, rfl, rfl⟩))))))))

/-! a draw by a cell -/
def mix (c k : Int) : Int := ((c + 7919 * k + 1) * 48271 % 1000003) * ((c + 7919 * k + 1) * 48271 % 1000003) % 999983
theorem mix_nn (c k : Int) : 0 ≤ mix c k := Int.emod_nonneg _ (by decide)
theorem mix_lt (c k : Int) : mix c k < 999983 := Int.emod_lt_of_pos _ (by decide)
def R_mix (ds : List PyData) (d : PyData) : Prop := ∃ c k : Int, ds = [.int c, .int k] ∧ d = .int (mix c k)
theorem ok_l_mix (T : Txt K mg A) : FnOk P w K mg base CX0 1 A.a_l_mix A.d_l_mix ["_law_cell", "_law_k"] (spG K R_mix) := by
  refine T.f_l_mix.ok sc_l_mix (fun vs H Q E h => ?_) (fun cdv Ar outer s H vs Q E hr h => ?_)
  · obtain ⟨H0, ds, d, sm, dv, ⟨c, k, rfl, _⟩, _⟩ := h; exact dpa_len dv
  obtain ⟨H0, ds, d, sm, dv, ⟨c, k, rfl, rfl⟩, q⟩ := h
  refine ⟨_, (pss_cons (ps_set (i := 2) sc_l_mix.nd rfl (.inl rfl) (pe_op op_mod (pe_op op_mul (pe_op op_add (pe_op op_add (pv 0) (pe_op op_mul pe_int (pv 1))) pe_int) pe_int) pe_int))
      (pss_one (ps_ret (pe_op op_mod (pe_op op_mul (pv 2) (pv 2)) pe_int)))), ?_⟩
  refine Pf.run (X := fun _ _ _ _ => False) (oc := .rt (.int (mix c k))) sm dv rfl ?_ q
  refine sx_seq (sx_set (d := .int ((c + 7919 * k + 1) * 48271 % 1000003)) ?_) (sx_ret ?_)
  · walk_at "ev"
    decide
  · have h1 : 0 ≤ (c + 7919 * k + 1) * 48271 % 1000003 := Int.emod_nonneg _ (by decide)
    have h2 : (c + 7919 * k + 1) * 48271 % 1000003 < 1000003 := Int.emod_lt_of_pos _ (by decide)
    unfold mix
    generalize (c + 7919 * k + 1) * 48271 % 1000003 = z at h1 h2
    walk_at "ev"
    · exact cm1 ⟨by omega, by omega⟩
    · decide

/-! whether it is a whole number: asked of whole numbers -/
def R_whole (ds : List PyData) (d : PyData) : Prop := ∃ i : Int, ds = [.int i] ∧ d = .bool true
theorem ok_l_whole (T : Txt K mg A) : FnOk P w K mg base CX0 1 A.a_l_whole A.d_l_whole ["_law_found"] (spG K R_whole) := by
  refine T.f_l_whole.ok sc_l_whole (fun vs H Q E h => ?_) (fun cdv Ar outer s H vs Q E hr h => ?_)
  · obtain ⟨H0, ds, d, sm, dv, ⟨i, rfl, _⟩, _⟩ := h; exact dpa_len dv
  obtain ⟨H0, ds, d, sm, dv, ⟨i, rfl, rfl⟩, q⟩ := h
  refine ⟨_, (pss_one (ps_ret (pe_and (pe_callB (r := rIsi K) (by exact call_isi) (by rfl) T.u_isinstance (by decide +kernel) (pa_cons (pv 0) (pa_cons (pe_bltn (v := .ty "int") (by rfl) T.u_int (by decide +kernel) rfl) pa_nil))) (pe_one (pe_not (pe_callB (r := rIsi K) (by exact call_isi) (by rfl) T.u_isinstance (by decide +kernel) (pa_cons (pv 0) (pa_cons (pe_bltn (v := .ty "bool") (by rfl) T.u_bool (by decide +kernel) rfl) pa_nil)))))))), ?_⟩
  refine Pf.run (X := fun _ _ _ _ => False) (oc := .rt (.bool true)) sm dv rfl ?_ q
  exact sx_ret (ev_andV (a := true) (b := true) (ev_isi (ev_var rfl) (kit_ty (by decide +kernel))) fun _ => ev_notV (a := false) (ev_isi (ev_var rfl) (kit_ty (by decide +kernel))))

/-! a cell of the script, nought beyond its end -/
def cellAt (ns : List Int) (k : Int) : Int := if k < ns.length then ns.getD k.toNat 0 else 0
def R_cell (ds : List PyData) (d : PyData) : Prop := ∃ (ns : List Int) (k : Int), 0 ≤ k ∧ ds = [.list (ns.map .int), .int k] ∧ d = .int (cellAt ns k)
theorem getD_get {ns : List Int} {i : Nat} (h : i < ns.length) : ns[i]? = some (ns.getD i 0) := by
  rw [List.getD_eq_getElem?_getD, List.getElem?_eq_getElem h]; rfl
theorem ok_l_cell_at (T : Txt K mg A) : FnOk P w K mg base CX0 1 A.a_l_cell_at A.d_l_cell_at ["_law_script", "_law_k"] (spG K R_cell) := by
  refine T.f_l_cell_at.ok sc_l_cell_at (fun vs H Q E h => ?_) (fun cdv Ar outer s H vs Q E hr h => ?_)
  · obtain ⟨H0, ds, d, sm, dv, ⟨ns, k, _, rfl, _⟩, _⟩ := h; exact dpa_len dv
  obtain ⟨H0, ds, d, sm, dv, ⟨ns, k, hk, rfl, rfl⟩, q⟩ := h
  refine ⟨_, (pss_cons (ps_if (pt_cmpR op_lt (pv 1) (pe_callB call_len_seq (by rfl) T.u_len (by decide +kernel) (pa_cons (pv 0) pa_nil)) (nomark _)) (pss_one (ps_ret (pe_ix (r := rIxL K) (by exact ix_list) (pv 0) (pv 1) (fun _ _ => rfl)))) pss_nil)
      (pss_one (ps_ret pe_int))), ?_⟩
  refine Pf.run (X := fun _ _ _ _ => False) (oc := .rt (.int (cellAt ns k))) sm dv rfl ?_ q
  have e : EvT K (tTest (tOp (rI0 fun i j => V.bl (decide (i < j))) (tVar 1) (tCB (fun xs H Q => ∃ p ys, xs = [.ref p] ∧ (SqL K H p ys ∨ SqT K H p ys) ∧ Q (.int ys.length) H) (tCons (tVar 0) tNil)))) [.dat (.list (ns.map .int)), .dat (.int k)] (decide (k < ns.length)) :=
    et_test (ev_I0 (ev_var rfl) (ev_len (ev_var rfl)) (by rw [List.length_map]; rfl))
  unfold cellAt
  by_cases c : k < ns.length
  · rw [if_pos c]
    rw [decide_eq_true c] at e
    refine sx_end (sx_yes e (sx_ret (ev_ixL (ev_var rfl) (ev_var rfl) (atI_int hk ?_)))) rfl
    rw [List.getElem?_map, getD_get (by omega)]; rfl
  · rw [if_neg c]
    rw [decide_eq_false c] at e
    exact sx_seq (sx_no e sx_next) (sx_ret (ev_c rfl))

/-! keys in hand against those that are due -/
theorem sh_hand (l : List Int) : Sh 1 (handD l) := sh_tup (sh_map fun _ _ => sh_int)
theorem hand_inj {a b : List Int} : a = b ↔ handD a = handD b := ⟨congrArg handD, fun h => map_inj (fun _ _ e => PyData.int.inj e) (PyData.tuple.inj h)⟩
def R_hand (ds : List PyData) (d : PyData) : Prop := ∃ f u : List Int, ds = [handD f, handD u] ∧ d = .bool (decide (f = u))
theorem ok_l_hand (T : Txt K mg A) : FnOk P w K mg base CX0 2 A.a_l_hand A.d_l_hand ["_law_found", "_law_due"] (spG K R_hand) := by
  refine T.f_l_hand.ok sc_l_hand (fun vs H Q E h => ?_) (fun cdv Ar outer s H vs Q E hr h => ?_)
  · obtain ⟨H0, ds, d, sm, dv, ⟨f, u, rfl, _⟩, _⟩ := h; exact dpa_len dv
  obtain ⟨H0, ds, d, sm, dv, ⟨f, u, rfl, rfl⟩, q⟩ := h
  refine ⟨_, (pss_cons (ps_if (PW.pt (pw_or (pt_not (pt_val (pe_callB (r := rIsi K) (by exact call_isi) (by rfl) T.u_isinstance (by decide +kernel) (pa_cons (pv 0) (pa_cons (pe_bltn (v := .ty "tuple") (by rfl) T.u_tuple (by decide +kernel) rfl) pa_nil))))) (pw_or1 (pt_cmpR op_ne (pe_callB call_len_seq (by rfl) T.u_len (by decide +kernel) (pa_cons (pv 0) pa_nil)) (pe_callB call_len_seq (by rfl) T.u_len (by decide +kernel) (pa_cons (pv 1) pa_nil)) (nomark _))))) (pss_one (ps_ret pe_bl)) pss_nil)
      (pss_cons (ps_for PassesOwn.never rfl (pi_tup (pv 0)) (pg_name (i := 2) sc_l_hand.nd rfl (Or.inl rfl))
        (pss_one (ps_if (pt_not (pt_val (pe_callS (E := fun _ => E0) (ok_l_whole T) (hr.mono (by decide)) rfl T.g_l_whole T.f_l_whole.kp (b_l_whole T) (fun σ => pass0S) (pa_cons (pv 2) pa_nil)))) (pss_one (ps_ret pe_bl)) pss_nil)))
      (pss_one (ps_ret (pe_cmpR (r := rEqD K) (by exact (op_eqD hr.units)) (pv 0) (pv 1) (nomark _)))))), ?_⟩
  refine Pf.run (X := fun _ _ _ _ => False) (oc := .rt (.bool (decide (f = u)))) sm dv rfl ?_ q
  have e : EvT K _ [.dat (handD f), .dat (handD u), .no] (!true || !decide ((f.length : Int) = u.length)) := et_or (et_not (et_B (ev_isi (n := "tuple") (ev_var (i := 0) rfl) (kit_ty (by decide +kernel))))) fun _ => et_test (ev_neI (ev_lenT (ev_var (i := 0) rfl)) (ev_lenT (ev_var (i := 1) rfl))) |>.is (by rw [List.length_map, List.length_map])
  by_cases c : (f.length : Int) = u.length
  · rw [decide_eq_true c] at e
    refine sx_seq (sx_no e sx_next) ?_
    refine sx_seq (sx_forT (ds := f.map .int) (ev_var rfl) (fun i => [.dat (handD f), .dat (handD u), if i = 0 then .no else .dat (.int (f.getD (i - 1) 0))]) rfl fun i d hi => ?_) (sx_ret ?_)
    · rw [List.getElem?_map] at hi
      cases ei : f[i]? with
      | none => rw [ei] at hi; cases hi
      | some z =>
        rw [ei] at hi
        obtain rfl := Option.some.inj hi
        refine ⟨_, tg_name, .inl (sx_no (EvT.is (et_not (et_B (ev_call (ea_cons (ev_var rfl) ea_nil) ⟨z, rfl, rfl⟩))) rfl) ?_)⟩
        have ez : f.getD i 0 = z := by rw [List.getD_eq_getElem?_getD, ei]; rfl
        refine (sx_next).to ?_
        rw [if_neg (Nat.succ_ne_zero i), Nat.add_sub_cancel, ez]; rfl
    · exact (ev_eqD (ev_var rfl) (ev_var rfl) ((sh_hand f).shaped (by decide)) ((sh_hand u).shaped (by decide))).is (by rw [eqv_dec (sh_hand f) (sh_hand u) hand_inj])
  · rw [decide_eq_false c] at e
    refine (sx_end (sx_yes e (sx_ret (ev_c rfl))) rfl).to ?_
    rw [decide_eq_false fun z => c (by rw [z])]

/-! the maze that is built: its size -/
/-- what is known of the size by the first cell -/
def sizeOk (f n : Int) : Prop := (1 ≤ n ∧ n ≤ 60) ∧ ((f % 12 = 6 ∨ f % 12 = 8) → n = 11 ∨ n = 17 ∨ n = 23) ∧ (f % 12 = 10 → 20 ≤ n) ∧ (f % 12 = 5 → 8 ≤ n) ∧ (f % 12 = 3 → n ≤ 6)
def R_size (ds : List PyData) (d : PyData) : Prop := ∃ (ns : List Int) (n : Int), ds = [.list (ns.map .int)] ∧ sizeOk (cellAt ns 0) n ∧ d = .int n
def I_size (ds : List PyData) : Prop := ∃ ns : List Int, ds = [.list (ns.map .int)]
theorem ok_l_size (T : Txt K mg A) : FnOk P w K mg base CX0 2 A.a_l_size A.d_l_size ["_law_script"] (spN K R_size I_size) := by
  refine T.f_l_size.ok sc_l_size (fun vs H Q E h => ?_) (fun cdv Ar outer s H vs Q E hr h => ?_)
  · obtain ⟨H0, ds, sm, dv, ⟨ns, rfl⟩, _⟩ := h; exact dpa_len dv
  obtain ⟨H0, ds, sm, dv, ⟨ns, rfl⟩, q⟩ := h
  refine ⟨_, (pss_cons (ps_set (i := 1) sc_l_size.nd rfl (.inl rfl) (pe_callS (E := fun _ => E0) (ok_l_cell_at T) (hr.mono (by decide)) rfl T.g_l_cell_at T.f_l_cell_at.kp (b_l_cell_at T) (fun σ => pass0S) (pa_cons (pv 0) (pa_cons pe_int pa_nil))))
      (pss_cons (ps_set (i := 2) sc_l_size.nd rfl (.inl rfl) (pe_callS (E := fun _ => E0) (ok_l_mix T) (hr.mono (by decide)) rfl T.g_l_mix T.f_l_mix.kp (b_l_mix T) (fun σ => pass0S) (pa_cons (pv 1) (pa_cons pe_int pa_nil))))
      (pss_cons (ps_if (pt_cmpR op_eq (pe_op op_mod (pv 1) pe_int) pe_int (nomark _)) (pss_one (ps_ret (pe_op op_add pe_int (pe_op op_mod (pv 2) pe_int)))) pss_nil)
      (pss_cons (ps_if (pt_cmpR op_eq (pe_op op_mod (pv 1) pe_int) pe_int (nomark _)) (pss_one (ps_ret (pe_op op_add pe_int (pe_op op_mod (pv 2) pe_int)))) pss_nil)
      (pss_cons (ps_if (pt_cmpR op_eq (pe_op op_mod (pv 1) pe_int) pe_int (nomark _)) (pss_one (ps_ret (pe_op op_add pe_int (pe_op op_mod (pv 2) pe_int)))) pss_nil)
      (pss_cons (ps_if (pt_cmpR op_eq (pe_op op_mod (pv 1) pe_int) pe_int (nomark _)) (pss_one (ps_ret (pe_op op_add pe_int (pe_op op_mod (pv 2) pe_int)))) pss_nil)
      (pss_cons (ps_if (pt_cmpR op_eq (pe_op op_mod (pv 1) pe_int) pe_int (nomark _)) (pss_one (ps_ret (pe_op op_add pe_int (pe_op op_mod (pv 2) pe_int)))) pss_nil)
      (pss_cons (ps_if (pt_cmpR (r := rIn K false) (by exact op_in_seq) (pe_op op_mod (pv 1) pe_int) (pe_tup (pa_cons pe_int (pa_cons pe_int pa_nil))) (by rfl)) (pss_one (ps_ret (pe_ix (r := rIxL K) (by exact ix_list) (pe_lst (pa_cons pe_int (pa_cons pe_int (pa_cons pe_int pa_nil)))) (pe_op op_mod (pv 2) pe_int) (fun _ _ => rfl)))) pss_nil)
      (pss_cons (ps_set (i := 3) sc_l_size.nd rfl (.inl rfl) (pe_lst (pa_cons pe_int (pa_cons pe_int (pa_cons pe_int (pa_cons pe_int (pa_cons pe_int (pa_cons pe_int pa_nil))))))))
      (pss_one (ps_ret (pe_op op_add (pe_op op_add pe_int (pe_op op_mod (pv 2) (pe_ix (r := rIxL K) (by exact ix_list) (pv 3) (pe_op op_mod (pv 1) pe_int) (fun _ _ => rfl)))) (pe_callTy call_int1 (by rfl) T.u_int (by decide +kernel) (pa_cons (pe_cmpR (r := rIn K false) (by exact op_in_seq) (pe_op op_mod (pv 1) pe_int) (pe_tup (pa_cons pe_int (pa_cons pe_int pa_nil))) (by rfl)) pa_nil)))))))))))))), ?_⟩
  refine Pf.runN (X := fun _ _ _ _ => False) (P := fun oc => ∃ d, R_size [.list (ns.map .int)] d ∧ oc = .rt d) sm dv rfl ?_ (fun oc ⟨d, r, e⟩ => by subst e; exact q d r)
  have fin : ∀ oc : Oc, (∃ d, R_size [.list (ns.map .int)] d ∧ oc = .rt d) → oc.isNx = false := fun oc ⟨d, _, e⟩ => by rw [e]; rfl
  have m0 := mix_nn (cellAt ns 0) 0
  refine sn_seq1 (sx_set (ev_call (ea_cons (ev_var rfl) (ea_cons (ev_c rfl) ea_nil)) ⟨ns, 0, by decide, rfl, rfl⟩)) ?_
  refine sn_seq1 (sx_set (ev_call (ea_cons (ev_var rfl) (ea_cons (ev_c rfl) ea_nil)) ⟨cellAt ns 0, 0, rfl, rfl⟩)) ?_
  generalize hf : cellAt ns 0 = f at m0
  generalize mix f 0 = z at m0
  have eq : ∀ c : Int, EvT K (tTest (tOp rEq (tOp (rI (fun _ j => 0 < j) fun i j => V.int (i % j)) (tVar 1) (tC (.int 12))) (tC (.int c)))) [.dat (.list (ns.map .int)), .dat (.int f), .dat (.int z), .no] (decide (f % 12 = c)) := fun c => by
    walk_at "ev"; decide
  have add : ∀ a b : Int, 0 < b → Ev K (tOp (rI0 fun i j => V.int (i + j)) (tC (.int a)) (tOp (rI (fun _ j => 0 < j) fun i j => V.int (i % j)) (tVar 2) (tC (.int b)))) [.dat (.list (ns.map .int)), .dat (.int f), .dat (.int z), .no] (.int (a + z % b)) := fun a b hb => by
    walk_at "ev"; exact hb
  have cases6 : f % 12 = 4 ∨ f % 12 = 10 ∨ f % 12 = 7 ∨ f % 12 = 5 ∨ f % 12 = 9 ∨ f % 12 = 6 ∨ f % 12 = 8 ∨ f % 12 = 0 ∨ f % 12 = 1 ∨ f % 12 = 2 ∨ f % 12 = 3 ∨ f % 12 = 11 := by omega
  refine sn_when (eq 4) (fun c => sn_ret (add 40 21 (by decide)) ⟨_, ⟨ns, _, rfl, ?_, rfl⟩, rfl⟩) fin (fun c4 => ?_)
  · rw [hf]; unfold sizeOk; have := of_decide_eq_true c; omega
  refine sn_when (eq 10) (fun c => sn_ret (add 20 21 (by decide)) ⟨_, ⟨ns, _, rfl, ?_, rfl⟩, rfl⟩) fin (fun c10 => ?_)
  · rw [hf]; unfold sizeOk; have := of_decide_eq_true c; omega
  refine sn_when (eq 7) (fun c => sn_ret (add 12 9 (by decide)) ⟨_, ⟨ns, _, rfl, ?_, rfl⟩, rfl⟩) fin (fun c7 => ?_)
  · rw [hf]; unfold sizeOk; have := of_decide_eq_true c; omega
  refine sn_when (eq 5) (fun c => sn_ret (add 8 7 (by decide)) ⟨_, ⟨ns, _, rfl, ?_, rfl⟩, rfl⟩) fin (fun c5 => ?_)
  · rw [hf]; unfold sizeOk; have := of_decide_eq_true c; omega
  refine sn_when (eq 9) (fun c => sn_ret (add 15 16 (by decide)) ⟨_, ⟨ns, _, rfl, ?_, rfl⟩, rfl⟩) fin (fun c9 => ?_)
  · rw [hf]; unfold sizeOk; have := of_decide_eq_true c; omega
  refine sn_when (b := decide (f % 12 = 6 ∨ f % 12 = 8)) (EvT.is (b := [PyData.int 6, .int 8].any fun z => eqF z (.int (f % 12))) ?_ (any2 _ _ _)) (fun c => sn_ret (d := .int ([11, 17, 23].getD (z % 3).toNat 0)) (ev_ixL (ds := [.int 11, .int 17, .int 23]) (i := z % 3) ?_ ?_ (atI_map (f := PyData.int) (l := [11, 17, 23]) 0 (by omega) (by show z % 3 < 3; omega))) ⟨_, ⟨ns, _, rfl, ?_, rfl⟩, rfl⟩) fin (fun c68 => ?_)
  · walk_at "ev"; decide
  · walk_at "ev"
  · walk_at "ev"; decide
  · rw [hf]
    have h68 := of_decide_eq_true c
    have : z % 3 = 0 ∨ z % 3 = 1 ∨ z % 3 = 2 := by omega
    unfold sizeOk
    rcases this with h | h | h <;> rw [h]
    · show (1 ≤ (11 : Int) ∧ (11 : Int) ≤ 60) ∧ (_ → (11 : Int) = 11 ∨ _) ∧ (_ → 20 ≤ (11 : Int)) ∧ (_ → 8 ≤ (11 : Int)) ∧ (_ → (11 : Int) ≤ 6); omega
    · show (1 ≤ (17 : Int) ∧ (17 : Int) ≤ 60) ∧ (_ → (17 : Int) = 11 ∨ (17 : Int) = 17 ∨ _) ∧ (_ → 20 ≤ (17 : Int)) ∧ (_ → 8 ≤ (17 : Int)) ∧ (_ → (17 : Int) ≤ 6); omega
    · show (1 ≤ (23 : Int) ∧ (23 : Int) ≤ 60) ∧ (_ → (23 : Int) = 11 ∨ (23 : Int) = 17 ∨ (23 : Int) = 23) ∧ (_ → 20 ≤ (23 : Int)) ∧ (_ → 8 ≤ (23 : Int)) ∧ (_ → (23 : Int) ≤ 6); omega
  have d4 := of_decide_eq_false c4
  have d10 := of_decide_eq_false c10
  have d7 := of_decide_eq_false c7
  have d5 := of_decide_eq_false c5
  have d9 := of_decide_eq_false c9
  have d68 := of_decide_eq_false c68
  refine sn_seq1 (sx_set (d := .list [.int 7, .int 60, .int 30, .int 5, .int 1, .int 7]) (by walk_at "ev")) ?_
  have some_ok : 0 < [7, 60, 30, 5, 1, 7].getD (f % 6).toNat (1 : Int) := by
    have : f % 6 = 0 ∨ f % 6 = 1 ∨ f % 6 = 2 ∨ f % 6 = 3 ∨ f % 6 = 4 ∨ f % 6 = 5 := by omega
    rcases this with h | h | h | h | h | h <;> rw [h] <;> decide
  refine sn_ret (d := .int (1 + z % [7, 60, 30, 5, 1, 7].getD (f % 6).toNat (1 : Int) + (if decide (f % 6 = 2 ∨ f % 6 = 3) = true then 1 else 0))) (ev_I0 (ev_I0 (ev_c rfl) (ev_I (ev_var rfl) (ev_ixL (ds := [.int 7, .int 60, .int 30, .int 5, .int 1, .int 7]) (i := f % 6) (ev_var rfl) ?_ (atI_map (f := PyData.int) (l := [7, 60, 30, 5, 1, 7]) 1 (by omega) (by show f % 6 < 6; omega))) some_ok rfl) rfl) (ev_intb (Ev.is (d := .bool ([PyData.int 2, .int 3].any fun z => eqF z (.int (f % 6)))) ?_ (by rw [any2]))) rfl) ⟨_, ⟨ns, _, rfl, ?_, rfl⟩, rfl⟩
  · walk_at "ev"; decide
  · walk_at "ev"; decide
  · rw [hf]
    unfold sizeOk
    have : f % 6 = 0 ∨ f % 6 = 1 ∨ f % 6 = 2 ∨ f % 6 = 3 ∨ f % 6 = 5 := by omega
    rcases this with h | h | h | h | h <;> rw [h]
    · have e : (if decide ((0 : Int) = 2 ∨ (0 : Int) = 3) = true then (1 : Int) else 0) = 0 := rfl
      rw [e]
      show (1 ≤ 1 + z % 7 + 0 ∧ 1 + z % 7 + 0 ≤ 60) ∧ (_ → 1 + z % 7 + 0 = 11 ∨ _) ∧ (_ → 20 ≤ 1 + z % 7 + 0) ∧ (_ → 8 ≤ 1 + z % 7 + 0) ∧ (_ → 1 + z % 7 + 0 ≤ 6); omega
    · have e : (if decide ((1 : Int) = 2 ∨ (1 : Int) = 3) = true then (1 : Int) else 0) = 0 := rfl
      rw [e]
      show (1 ≤ 1 + z % 60 + 0 ∧ 1 + z % 60 + 0 ≤ 60) ∧ (_ → 1 + z % 60 + 0 = 11 ∨ _) ∧ (_ → 20 ≤ 1 + z % 60 + 0) ∧ (_ → 8 ≤ 1 + z % 60 + 0) ∧ (_ → 1 + z % 60 + 0 ≤ 6); omega
    · have e : (if decide ((2 : Int) = 2 ∨ (2 : Int) = 3) = true then (1 : Int) else 0) = 1 := rfl
      rw [e]
      show (1 ≤ 1 + z % 30 + 1 ∧ 1 + z % 30 + 1 ≤ 60) ∧ (_ → 1 + z % 30 + 1 = 11 ∨ _) ∧ (_ → 20 ≤ 1 + z % 30 + 1) ∧ (_ → 8 ≤ 1 + z % 30 + 1) ∧ (_ → 1 + z % 30 + 1 ≤ 6); omega
    · have e : (if decide ((3 : Int) = 2 ∨ (3 : Int) = 3) = true then (1 : Int) else 0) = 1 := rfl
      rw [e]
      show (1 ≤ 1 + z % 5 + 1 ∧ 1 + z % 5 + 1 ≤ 60) ∧ (_ → 1 + z % 5 + 1 = 11 ∨ _) ∧ (_ → 20 ≤ 1 + z % 5 + 1) ∧ (_ → 8 ≤ 1 + z % 5 + 1) ∧ (_ → 1 + z % 5 + 1 ≤ 6); omega
    · have e : (if decide ((5 : Int) = 2 ∨ (5 : Int) = 3) = true then (1 : Int) else 0) = 0 := rfl
      rw [e]
      show (1 ≤ 1 + z % 7 + 0 ∧ 1 + z % 7 + 0 ≤ 60) ∧ (_ → 1 + z % 7 + 0 = 11 ∨ _) ∧ (_ → 20 ≤ 1 + z % 7 + 0) ∧ (_ → 8 ≤ 1 + z % 7 + 0) ∧ (_ → 1 + z % 7 + 0 ≤ 6); omega

/-! the maze that is built: its doors -/
def okLock (l : Option Int) : Prop := ∀ k, l = some k → 0 ≤ k ∧ k < 5
def okDoor (n : Int) (d : Door) : Prop := inRoom n d.1 ∧ inRoom n d.2.1 ∧ okLock d.2.2
def okDoors (n : Int) (L : List Door) : Prop := L.length ≤ 600 ∧ ∀ d ∈ L, okDoor n d
theorem okLock_none : okLock none := fun _ h => nomatch h
theorem okLock_some {k : Int} (h : 0 ≤ k ∧ k < 5) : okLock (some k) := fun j e => by cases e; exact h
theorem okLock_all {l : List (Option Int)} (h : l.all (fun o => match o with | none => true | some k => decide (0 ≤ k) && decide (k < 5)) = true) (i : Nat) : okLock (l.getD i none) := by
  rw [List.getD_eq_getElem?_getD]
  cases e : l[i]? with
  | none => exact okLock_none
  | some o =>
    have := List.all_eq_true.mp h o (List.mem_of_getElem? e)
    show okLock o
    cases o with
    | none => exact okLock_none
    | some k =>
      simp only [Bool.and_eq_true, decide_eq_true_eq] at this
      exact okLock_some this
theorem room_mod {n x : Int} (h : 0 < n) : inRoom n (x % n) := ⟨Int.emod_nonneg _ (by omega), Int.emod_lt_of_pos _ h⟩
/-- some doors that are right, at most m -/
def Some (n : Int) (m : Nat) (L : List Door) : Prop := L.length ≤ m ∧ ∀ d ∈ L, okDoor n d
theorem Some.nil {n : Int} {m : Nat} : Some n m [] := ⟨Nat.zero_le _, fun _ h => nomatch h⟩
theorem Some.add {n : Int} {m : Nat} {L : List Door} {d : Door} (h : Some n m L) (k : okDoor n d) : Some n (m + 1) (L ++ [d]) := by
  refine ⟨by rw [List.length_append]; exact Nat.add_le_add_right h.1 1, fun x hx => ?_⟩
  rcases List.mem_append.mp hx with z | z
  · exact h.2 x z
  · rw [List.mem_singleton.mp z]; exact k
theorem Some.le {n : Int} {m m' : Nat} {L : List Door} (h : Some n m L) (k : m ≤ m') : Some n m' L := ⟨Nat.le_trans h.1 k, h.2⟩
theorem Some.map {n : Int} {m : Nat} {g : Nat → Door} (h : ∀ k, k < m → okDoor n (g k)) : Some n m ((List.range m).map g) :=
  ⟨by rw [List.length_map, List.length_range]; exact Nat.le_refl _, fun d hd => by
    obtain ⟨k, hk, rfl⟩ := List.mem_map.mp hd
    exact h k (List.mem_range.mp hk)⟩
theorem map_app {L : List Door} {d : Door} : (L ++ [d]).map doorD = L.map doorD ++ [doorD d] := by rw [List.map_append]; rfl
theorem comp_all {g : Nat → Door} {m : Nat} : (((List.range m).filter fun _ => true).map fun k => doorD (g k)) = ((List.range m).map g).map doorD := by
  rw [List.filter_eq_self.mpr (fun _ _ => rfl), List.map_map]; rfl
theorem lkc (h : (none : Option Int) = none) : optD none = .none := rfl
/-! its lock -/
def lockF (n : Int) : Option Int := [none, none, none, some 0, some 1, some 2, some 3, some 4].getD (n % 8).toNat none
theorem lockF_ok (n : Int) : okLock (lockF n) := okLock_all (by decide) _
def R_lock (ds : List PyData) (d : PyData) : Prop := ∃ n : Int, ds = [.int n] ∧ d = optD (lockF n)
theorem ok_l_lock (T : Txt K mg A) : FnOk P w K mg base CX0 1 A.a_l_lock A.d_l_lock ["_law_number"] (spG K R_lock) := by
  refine T.f_l_lock.ok sc_l_lock (fun vs H Q E h => ?_) (fun cdv Ar outer s H vs Q E hr h => ?_)
  · obtain ⟨H0, ds, d, sm, dv, ⟨n, rfl, _⟩, _⟩ := h; exact dpa_len dv
  obtain ⟨H0, ds, d, sm, dv, ⟨n, rfl, rfl⟩, q⟩ := h
  refine ⟨_, (pss_one (ps_ret (pe_ix (r := rIxL K) (by exact ix_list) (pe_lst (pa_cons pe_non (pa_cons pe_non (pa_cons pe_non (pa_cons pe_int (pa_cons pe_int (pa_cons pe_int (pa_cons pe_int (pa_cons pe_int pa_nil))))))))) (pe_op op_mod (pv 0) pe_int) (fun _ _ => rfl)))), ?_⟩
  refine Pf.run (X := fun _ _ _ _ => False) (oc := .rt (optD (lockF n))) sm dv rfl ?_ q
  refine sx_ret (ev_ixL (ds := [.none, .none, .none, .int 0, .int 1, .int 2, .int 3, .int 4]) (i := n % 8) ?_ ?_ (atI_map (f := optD) (l := [none, none, none, some 0, some 1, some 2, some 3, some 4]) none (Int.emod_nonneg _ (by decide)) (Int.emod_lt_of_pos _ (by decide))))
  · walk_at "ev"
  · walk_at "ev"; decide
/-! the rank of a place -/
def rankF (p n : Int) : Int := if p = n - 1 then (n - 2) / 3 + 1 else (p + 2) / 3
theorem rankF_in {p n : Int} (h : 0 ≤ p) (h1 : p < 100000) (h2 : 0 ≤ n) (h3 : n < 100000) : -100000 < rankF p n ∧ rankF p n < 100000 := by
  unfold rankF
  split <;> omega
def R_rank (ds : List PyData) (d : PyData) : Prop := ∃ p n : Int, ds = [.int p, .int n] ∧ d = .int (rankF p n)
theorem ok_l_rank (T : Txt K mg A) : FnOk P w K mg base CX0 1 A.a_l_rank A.d_l_rank ["_law_place", "_law_size_here"] (spG K R_rank) := by
  refine T.f_l_rank.ok sc_l_rank (fun vs H Q E h => ?_) (fun cdv Ar outer s H vs Q E hr h => ?_)
  · obtain ⟨H0, ds, d, sm, dv, ⟨p, n, rfl, _⟩, _⟩ := h; exact dpa_len dv
  obtain ⟨H0, ds, d, sm, dv, ⟨p, n, rfl, rfl⟩, q⟩ := h
  refine ⟨_, (pss_cons (ps_if (pt_cmpR op_eq (pv 0) (pe_op op_sub (pv 1) pe_int) (nomark _)) (pss_one (ps_ret (pe_op op_add (pe_op op_fdiv (pe_op op_sub (pv 1) pe_int) pe_int) pe_int))) pss_nil)
      (pss_one (ps_ret (pe_op op_fdiv (pe_op op_add (pv 0) pe_int) pe_int)))), ?_⟩
  refine Pf.run (X := fun _ _ _ _ => False) (oc := .rt (.int (rankF p n))) sm dv rfl ?_ q
  refine sx_when (b := decide (p = n - 1)) ?_ (fun c => sx_ret (Ev.is (d := .int ((n - 2) / 3 + 1)) ?_ ?_)) (fun _ => rfl) (fun c => sx_ret (Ev.is (d := .int ((p + 2) / 3)) ?_ ?_))
  · walk_at "ev"
  · walk_at "ev"
  · unfold rankF; rw [if_pos (of_decide_eq_true c)]
  · walk_at "ev"
  · unfold rankF; rw [if_neg (of_decide_eq_false c)]
/-! doors by ranks -/
def R_doors (ds : List PyData) (xs : List PyData) : Prop := ∃ (n : Int) (L : List Door), ds[1]? = some (.int n) ∧ okDoors n L ∧ xs = L.map doorD
def I_built (p : Int → Int → Prop) (ds : List PyData) : Prop := ∃ f n : Int, p f n ∧ ds = [.int f, .int n]
abbrev I_ranks := I_built fun _ n => n = 11 ∨ n = 17 ∨ n = 23
abbrev P_doors (ds : List PyData) : Oc → Prop := fun oc => ∃ xs, R_doors ds xs ∧ oc = .rl xs
theorem doors_fin {ds : List PyData} : ∀ oc : Oc, P_doors ds oc → oc.isNx = false := fun oc ⟨d, _, e⟩ => by rw [e]; rfl
theorem ok_l_ranks (T : Txt K mg A) : FnOk P w K mg base CX0 2 A.a_l_ranks A.d_l_ranks ["_law_first", "_law_size_here"] (spLN K R_doors I_ranks) := by
  refine T.f_l_ranks.ok sc_l_ranks (fun vs H Q E h => ?_) (fun cdv Ar outer s H vs Q E hr h => ?_)
  · obtain ⟨H0, ds, sm, dv, ⟨f, n, _, rfl⟩, _⟩ := h; exact dpa_len dv
  obtain ⟨H0, ds, sm, dv, ⟨f, n, hn, rfl⟩, q⟩ := h
  refine ⟨_, (pss_cons (ps_set (i := 2) sc_l_ranks.nd rfl (.inl rfl) (pe_callS (E := fun _ => E0) (ok_l_mix T) (hr.mono (by decide)) rfl T.g_l_mix T.f_l_mix.kp (b_l_mix T) (fun σ => pass0S) (pa_cons (pv 0) (pa_cons pe_int pa_nil))))
      (pss_cons (ps_set (i := 3) sc_l_ranks.nd rfl (.inl rfl) (pe_op op_add pe_int (pe_op op_mod (pv 2) (pe_op op_sub (pv 1) pe_int))))
      (pss_cons (ps_set (i := 4) sc_l_ranks.nd rfl (.inl rfl) (pe_lst pa_nil))
      (pss_cons (ps_for PassesOwn.never rfl (pi_range1 rfl T.u_range (pa_cons (pv 1) pa_nil)) (pg_name (i := 5) sc_l_ranks.nd rfl (Or.inl rfl))
        (pss_one (ps_for PassesOwn.never rfl (pi_range1 rfl T.u_range (pa_cons (pv 1) pa_nil)) (pg_name (i := 6) sc_l_ranks.nd rfl (Or.inl rfl))
        (pss_cons (ps_set (i := 7) sc_l_ranks.nd rfl (.inl rfl) (pe_callS (E := fun _ => E0) (ok_l_rank T) (hr.mono (by decide)) rfl T.g_l_rank T.f_l_rank.kp (b_l_rank T) (fun σ => pass0S) (pa_cons (pv 5) (pa_cons (pv 1) pa_nil))))
      (pss_one (ps_if (pt_cmpR op_eq (pe_callS (E := fun _ => E0) (ok_l_rank T) (hr.mono (by decide)) rfl T.g_l_rank T.f_l_rank.kp (b_l_rank T) (fun σ => pass0S) (pa_cons (pv 6) (pa_cons (pv 1) pa_nil))) (pe_op op_add (pv 7) pe_int) (nomark _)) (pss_cons (ps_set (i := 8) sc_l_ranks.nd rfl (.inl rfl) (pe_tup (pa_cons (pe_op op_mod (pe_op op_mul (pv 5) (pv 3)) (pv 1)) (pa_cons (pe_op op_mod (pe_op op_mul (pv 6) (pv 3)) (pv 1)) (pa_cons pe_int pa_nil)))))
      (pss_one (ps_if (PW.pt (pw_or (pt_cmpR op_eq (pv 5) pe_int (nomark _)) (pw_or (pt_cmpR op_eq (pv 6) (pe_op op_sub (pv 1) pe_int) (nomark _)) (pw_or1 (pt_cmpR op_eq (pe_op op_mod (pe_op op_add (pe_op op_add (pe_op op_sub (pv 6) (pv 5)) (pe_op op_fdiv (pv 2) pe_int)) (pe_op op_mul (pv 7) (pv 7))) pe_int) pe_int (nomark _)))))) (pss_one (ps_expr (pe_bm PySem.F.plainAttrs_list PySem.F.slot_list_append PySem.F.type_list_append mt_append (pv 4) (pa_cons (pe_tup (pa_cons (pe_ix (r := rIxT K) (by exact ix_tup) (pv 8) pe_int (fun _ _ => rfl)) (pa_cons (pe_ix (r := rIxT K) (by exact ix_tup) (pv 8) pe_int (fun _ _ => rfl)) (pa_cons pe_non pa_nil)))) pa_nil)))) (pss_one (ps_if (pt_cmpR op_eq (pe_op op_mod (pe_op op_add (pe_op op_mul (pv 5) (pv 6)) (pv 2)) pe_int) pe_int (nomark _)) (pss_one (ps_expr (pe_bm PySem.F.plainAttrs_list PySem.F.slot_list_append PySem.F.type_list_append mt_append (pv 4) (pa_cons (pv 8) pa_nil)))) pss_nil))))) pss_nil))))))
      (pss_one (ps_ret (pv 4))))))), ?_⟩
  refine Pf.runN (X := fun _ _ _ _ => False) (P := P_doors [.int f, .int n]) sm dv rfl ?_ (fun oc ⟨xs, r, e⟩ => by subst e; exact fun p ws G H2 fr w1 w2 w3 w4 => q xs r p ws G H2 fr (w1.elim False.elim id) w2 w3 w4)
  have n0 : 0 < n := by omega
  have n1 : n ≤ 23 := by omega
  refine sn_seq1 (sx_set (ev_call (ea_cons (ev_var rfl) (ea_cons (ev_c rfl) ea_nil)) ⟨f, 0, rfl, rfl⟩)) ?_
  have z0 := mix_nn f 0
  have z1 := mix_lt f 0
  generalize mix f 0 = z at z0 z1
  refine sn_seq1 (sx_set (d := .int (1 + z % (n - 1))) (ev_I0 (ev_c rfl) (ev_I (ev_var rfl) (ev_I0 (ev_var rfl) (ev_c rfl) rfl) (show 0 < n - 1 by omega) rfl) rfl)) ?_
  have m0 : 0 ≤ z % (n - 1) := Int.emod_nonneg _ (by omega)
  have m1 : z % (n - 1) < n - 1 := Int.emod_lt_of_pos _ (by omega)
  generalize hnm : 1 + z % (n - 1) = nm
  have k0 : 0 ≤ nm ∧ nm ≤ 23 := by omega
  refine sn_seq1 (sx_setO (eo_lst ea_nil (by decide))) ?_
  refine sn_seq (sn_forR1 (n := n.toNat) (ea_cons (ev_var rfl) ea_nil) (by omega) rfl (fun i e => ∃ L, Some n (i * 23) L ∧ e = [.dat (.int f), .dat (.int n), .dat (.int z), .dat (.int nm), .own (L.map doorD), .no, .no, .no, .no]) ⟨[], Some.nil, rfl⟩ fun i e hi ⟨L, hL, he⟩ => ?_) fun e ⟨L, hL, he⟩ => ?_
  · subst he
    refine ⟨_, tg_name, ?_⟩
    refine sn_out (sn_forR1 (n := n.toNat) (ea_cons (ev_var rfl) ea_nil) (by omega) rfl (fun j e => ∃ L, Some n (i * 23 + j) L ∧ e = [.dat (.int f), .dat (.int n), .dat (.int z), .dat (.int nm), .own (L.map doorD), .dat (.int i), .no, .no, .no]) ⟨L, hL.le (by omega), rfl⟩ fun j e hj ⟨L, hL, he⟩ => ?_) fun e ⟨L, hL, he⟩ => ?_
    · subst he
      refine ⟨_, tg_name, ?_⟩
      have hiz : (i : Int) < n := by omega
      have hjz : (j : Int) < n := by omega
      obtain ⟨r0, r1⟩ := rankF_in (p := (i : Int)) (n := n) (by omega) (by omega) (by omega) (by omega)
      have sz : L.length < 100000 := by have := hL.1; have : i * 23 ≤ 23 * 23 := Nat.mul_le_mul_right _ (by omega); omega
      refine sn_seq1 (sx_set (ev_call (ea_cons (ev_var rfl) (ea_cons (ev_var rfl) ea_nil)) ⟨i, n, rfl, rfl⟩)) ?_
      generalize rankF i n = r at r0 r1
      have fin : ∀ (L' : List Door), Some n (i * 23 + (j + 1)) L' → ∀ e', Less [.dat (.int f), .dat (.int n), .dat (.int z), .dat (.int nm), .own (L'.map doorD), .dat (.int i), .no, .no, .no] e' → ∃ e'', Less e'' e' ∧ ∃ L, Some n (i * 23 + (j + 1)) L ∧ e'' = [.dat (.int f), .dat (.int n), .dat (.int z), .dat (.int nm), .own (L.map doorD), .dat (.int i), .no, .no, .no] := fun L' h1 e' h2 => ⟨_, h2, L', h1, rfl⟩
      have okd : okDoor n (((i : Int) * nm % n, (j : Int) * nm % n, some 0) : Door) := ⟨room_mod n0, room_mod n0, okLock_some (by decide)⟩
      have okn : okDoor n (((i : Int) * nm % n, (j : Int) * nm % n, none) : Door) := ⟨room_mod n0, room_mod n0, okLock_none⟩
      apply sn_if
      · refine et_test (ev_eqI (ev_call (ea_cons (ev_var rfl) (ea_cons (ev_var rfl) ea_nil)) ⟨j, n, rfl, rfl⟩) (ev_I0 (ev_var rfl) (ev_c rfl) rfl))
      · intro _
        refine sn_seq1 (sx_set (d := doorD ((i : Int) * nm % n, (j : Int) * nm % n, some 0)) (ev_tup (ea_cons (ev_I (ev_I (ev_var rfl) (ev_var rfl) (cm1 (by omega)) rfl) (ev_var rfl) n0 rfl) (ea_cons (ev_I (ev_I (ev_var rfl) (ev_var rfl) (cm1 (by omega)) rfl) (ev_var rfl) n0 rfl) (ea_cons (ev_c rfl) ea_nil))) (Nat.le_of_ble_eq_true rfl))) ?_
        apply sn_if
        · refine et_or (et_test (ev_eqI (ev_var rfl) (ev_c rfl))) fun _ => et_or (et_test (ev_eqI (ev_var rfl) (ev_I0 (ev_var rfl) (ev_c rfl) rfl))) fun _ => et_test (ev_eqI (ev_I (ev_I0 (ev_I0 (ev_I0 (ev_var rfl) (ev_var rfl) rfl) (ev_I (ev_var rfl) (ev_c rfl) ⟨by decide, by decide⟩ rfl) rfl) (ev_I (ev_var rfl) (ev_var rfl) (cm1 (by omega)) rfl) rfl) (ev_c rfl) (by decide) rfl) (ev_c rfl))
        · intro _
          refine sn_out1 (sx_app (d := doorD ((i : Int) * nm % n, (j : Int) * nm % n, none)) rfl (ev_tup (ea_cons (ev_ixT (ev_var rfl) (ev_c rfl) rfl) (ea_cons (ev_ixT (ev_var rfl) (ev_c rfl) rfl) (ea_cons (ev_c rfl) ea_nil))) (Nat.le_of_ble_eq_true rfl)) (by rw [List.length_map]; exact sz)) (fin _ ((hL.add okn).le (by omega)) _ ?_)
          rw [map_app]; walk_at "less"
        · intro _
          apply sn_if
          · refine et_test (ev_eqI (ev_I (ev_I0 (ev_I (ev_var rfl) (ev_var rfl) (cm1 (by omega)) rfl) (ev_var rfl) rfl) (ev_c rfl) (by decide) rfl) (ev_c rfl))
          · intro _
            refine sn_out1 (sx_app (d := doorD ((i : Int) * nm % n, (j : Int) * nm % n, some 0)) rfl (ev_var rfl) (by rw [List.length_map]; exact sz)) (fin _ ((hL.add okd).le (by omega)) _ ?_)
            rw [map_app]; walk_at "less"
          · intro _
            exact sn_out1 sx_next (fin _ (hL.le (by omega)) _ (by walk_at "less"))
      · intro _
        exact sn_out1 sx_next (fin _ (hL.le (by omega)) _ (by walk_at "less"))
    · subst he
      exact ⟨_, by walk_at "less", L, hL.le (by omega), rfl⟩
  · subst he
    refine sn_of (sx_retV rfl) ⟨_, ⟨n, L, rfl, ⟨?_, hL.2⟩, rfl⟩, rfl⟩
    have := hL.1
    have : n.toNat * 23 ≤ 23 * 23 := Nat.mul_le_mul_right _ (by omega)
    omega

/-! many doors; mixed ones -/
theorem lk6 (i : Int) : okLock ([some 0, some 1, some 2, some 3, some 4, none].getD i.toNat none) := okLock_all (by decide) _
theorem lk8 (i : Int) : okLock ([none, some 0, none, some 1, some 2, none, some 3, some 4].getD i.toNat none) := okLock_all (by decide) _
theorem at6 {i : Int} (h : 0 ≤ i) (h1 : i < 6) : atI [PyData.int 0, .int 1, .int 2, .int 3, .int 4, .none] i = some (optD ([some 0, some 1, some 2, some 3, some 4, none].getD i.toNat none)) :=
  atI_map (f := optD) (l := [some 0, some 1, some 2, some 3, some 4, none]) none h h1
theorem at8 {i : Int} (h : 0 ≤ i) (h1 : i < 8) : atI [PyData.none, .int 0, .none, .int 1, .int 2, .none, .int 3, .int 4] i = some (optD ([none, some 0, none, some 1, some 2, none, some 3, some 4].getD i.toNat none)) :=
  atI_map (f := optD) (l := [none, some 0, none, some 1, some 2, none, some 3, some 4]) none h h1
abbrev I_many := I_built fun _ n => 2 ≤ n ∧ n ≤ 60
theorem ok_l_many (T : Txt K mg A) : FnOk P w K mg base CX0 2 A.a_l_many A.d_l_many ["_law_first", "_law_size_here"] (spLN K R_doors I_many) := by
  refine T.f_l_many.ok sc_l_many (fun vs H Q E h => ?_) (fun cdv Ar outer s H vs Q E hr h => ?_)
  · obtain ⟨H0, ds, sm, dv, ⟨f, n, _, rfl⟩, _⟩ := h; exact dpa_len dv
  obtain ⟨H0, ds, sm, dv, ⟨f, n, hn, rfl⟩, q⟩ := h
  refine ⟨_, (pss_cons (ps_set (i := 2) sc_l_many.nd rfl (.inl rfl) (pe_callS (E := fun _ => E0) (ok_l_mix T) (hr.mono (by decide)) rfl T.g_l_mix T.f_l_mix.kp (b_l_mix T) (fun σ => pass0S) (pa_cons (pv 0) (pa_cons pe_int pa_nil))))
      (pss_cons (ps_set (i := 3) sc_l_many.nd rfl (.inl rfl) (pe_lst pa_nil))
      (pss_cons (ps_for PassesOwn.never rfl (pi_range1 rfl T.u_range (pa_cons (pe_op op_add pe_int (pe_op op_mod (pe_op op_fdiv (pv 2) pe_int) pe_int)) pa_nil)) (pg_name (i := 4) sc_l_many.nd rfl (Or.inl rfl))
        (pss_cons (ps_set (i := 5) sc_l_many.nd rfl (.inl rfl) (pe_op op_mod (pv 4) (pe_op op_sub (pv 1) pe_int)))
      (pss_cons (ps_set (i := 6) sc_l_many.nd rfl (.inl rfl) (pe_op op_add (pe_op op_mul (pv 5) (pe_op op_add pe_int (pe_op op_mod (pe_op op_fdiv (pv 2) pe_int) pe_int))) (pe_op op_fdiv (pv 2) pe_int)))
      (pss_cons (ps_if (pt_cmpR op_eq (pe_op op_mod (pe_op op_fdiv (pv 4) (pe_op op_sub (pv 1) pe_int)) pe_int) pe_int (nomark _)) (pss_one (ps_set (i := 6) sc_l_many.nd rfl (.inl rfl) (pe_op op_add (pv 6) (pe_op op_mod (pv 2) pe_int)))) pss_nil)
      (pss_cons (ps_set (i := 6) sc_l_many.nd rfl (.inl rfl) (pe_op op_mod (pv 6) pe_int))
      (pss_one (ps_if (pt_cmpR op_eq (pe_op op_mod (pv 4) pe_int) pe_int (nomark _)) (pss_one (ps_expr (pe_bm PySem.F.plainAttrs_list PySem.F.slot_list_append PySem.F.type_list_append mt_append (pv 3) (pa_cons (pe_tup (pa_cons (pe_op op_mod (pe_op op_mul (pv 4) (pv 4)) (pv 1)) (pa_cons (pe_op op_mod (pe_op op_mul (pv 4) pe_int) (pv 1)) (pa_cons (pe_ix (r := rIxL K) (by exact ix_list) (pe_lst (pa_cons pe_int (pa_cons pe_int (pa_cons pe_int (pa_cons pe_int (pa_cons pe_int (pa_cons pe_non pa_nil))))))) (pe_op op_mod (pv 4) pe_int) (fun _ _ => rfl)) pa_nil)))) pa_nil)))) (pss_one (ps_expr (pe_bm PySem.F.plainAttrs_list PySem.F.slot_list_append PySem.F.type_list_append mt_append (pv 3) (pa_cons (pe_tup (pa_cons (pv 5) (pa_cons (pe_op op_add (pv 5) pe_int) (pa_cons (pe_ix (r := rIxL K) (by exact ix_list) (pe_lst (pa_cons pe_int (pa_cons pe_int (pa_cons pe_int (pa_cons pe_int (pa_cons pe_int (pa_cons pe_non pa_nil))))))) (pv 6) (fun _ _ => rfl)) pa_nil)))) pa_nil)))))))))))
      (pss_one (ps_ret (pv 3)))))), ?_⟩
  refine Pf.runN (X := fun _ _ _ _ => False) (P := P_doors [.int f, .int n]) sm dv rfl ?_ (fun oc ⟨xs, r, e⟩ => by subst e; exact fun p ws G H2 fr w1 w2 w3 w4 => q xs r p ws G H2 fr (w1.elim False.elim id) w2 w3 w4)
  refine sn_seq1 (sx_set (ev_call (ea_cons (ev_var rfl) (ea_cons (ev_c rfl) ea_nil)) ⟨f, 0, rfl, rfl⟩)) ?_
  have z0 := mix_nn f 0
  have z1 := mix_lt f 0
  generalize mix f 0 = z at z0 z1
  refine sn_seq1 (sx_setO (eo_lst ea_nil (by decide))) ?_
  have n0 : 0 < n := by omega
  have n1 : 0 < n - 1 := by omega
  refine sn_seq (sn_forR1 (k := 65 + z / 7 % 26) (n := (65 + z / 7 % 26).toNat) (ea_cons ?_ ea_nil) (by omega) rfl (fun i e => ∃ L, Some n i L ∧ e = [.dat (.int f), .dat (.int n), .dat (.int z), .own (L.map doorD), .no, .no, .no]) ⟨[], Some.nil, rfl⟩ fun i e hi ⟨L, hL, he⟩ => ?_) fun e ⟨L, hL, he⟩ => ?_
  · walk_at "ev"; decide
  · subst he
    refine ⟨_, tg_name, ?_⟩
    have sz : L.length < 100000 := by have := hL.1; omega
    refine sn_seq1 (sx_set (d := .int ((i : Int) % (n - 1))) (ev_I (ev_var rfl) (ev_I0 (ev_var rfl) (ev_c rfl) rfl) n1 rfl)) ?_
    have a0 : 0 ≤ (i : Int) % (n - 1) := Int.emod_nonneg _ (by omega)
    have a1 : (i : Int) % (n - 1) < n - 1 := Int.emod_lt_of_pos _ n1
    generalize (i : Int) % (n - 1) = a at a0 a1
    refine sn_seq1 (sx_set (d := .int (a * (1 + z / 182 % 5) + z / 910)) ?_) ?_
    · walk_at "ev"
      · decide
      · exact cm0 (by omega)
    generalize a * (1 + z / 182 % 5) + z / 910 = b
    refine sn_ifs (b := decide ((i : Int) / (n - 1) % 2 = 1)) (M := fun e => ∃ b : Int, e = [.dat (.int f), .dat (.int n), .dat (.int z), .own (L.map doorD), .dat (.int i), .dat (.int a), .dat (.int b)]) ?_ (fun _ => sn_of (sx_set (d := .int (b + z % 3)) ?_) ⟨_, rfl, _, rfl⟩) (fun _ => sn_of sx_next ⟨_, rfl, _, rfl⟩) fun e ⟨b, he⟩ => ?_
    · walk_at "ev"
      · exact ⟨n1, by omega⟩
      · decide
    · walk_at "ev"; decide
    subst he
    refine sn_seq1 (sx_set (d := .int (b % 6)) (by walk_at "ev"; decide)) ?_
    have b0 : 0 ≤ b % 6 := by omega
    have b1 : b % 6 < 6 := by omega
    generalize b % 6 = c at b0 b1
    refine sn_if (b := decide ((i : Int) % 13 = 12)) ?_ (fun _ => ?_) (fun _ => ?_)
    · walk_at "ev"; decide
    · refine sn_out1 (sx_app (d := doorD ((i : Int) * i % n, (i : Int) * 3 % n, [some 0, some 1, some 2, some 3, some 4, none].getD ((i : Int) % 6).toNat none)) rfl (ev_tup (ea_cons (ev_I (ev_I (ev_var rfl) (ev_var rfl) (cm1 (by omega)) rfl) (ev_var rfl) n0 rfl) (ea_cons (ev_I (ev_I (ev_var rfl) (ev_c rfl) (cm1 (by decide)) rfl) (ev_var rfl) n0 rfl) (ea_cons (ev_ixL ?_ (ev_I (ev_var rfl) (ev_c rfl) (by decide) rfl) (at6 (by omega) (by omega))) ea_nil))) (Nat.le_of_ble_eq_true rfl)) (by rw [List.length_map]; exact sz)) ⟨[.dat (.int f), .dat (.int n), .dat (.int z), .own ((L ++ [((i : Int) * i % n, (i : Int) * 3 % n, [some 0, some 1, some 2, some 3, some 4, none].getD ((i : Int) % 6).toNat none)]).map doorD), .no, .no, .no], ?_, _, hL.add ⟨room_mod n0, room_mod n0, lk6 _⟩, rfl⟩
      · walk_at "ev"
      · rw [map_app]; walk_at "less"
    · refine sn_out1 (sx_app (d := doorD (a, a + 1, [some 0, some 1, some 2, some 3, some 4, none].getD c.toNat none)) rfl (ev_tup (ea_cons (ev_var rfl) (ea_cons (ev_I0 (ev_var rfl) (ev_c rfl) rfl) (ea_cons (ev_ixL ?_ (ev_var rfl) (at6 b0 b1)) ea_nil))) (Nat.le_of_ble_eq_true rfl)) (by rw [List.length_map]; exact sz)) ⟨[.dat (.int f), .dat (.int n), .dat (.int z), .own ((L ++ [(a, a + 1, [some 0, some 1, some 2, some 3, some 4, none].getD c.toNat none)]).map doorD), .no, .no, .no], ?_, _, hL.add ⟨⟨a0, by show a < n; omega⟩, ⟨by show 0 ≤ a + 1; omega, by show a + 1 < n; omega⟩, lk6 _⟩, rfl⟩
      · walk_at "ev"
      · rw [map_app]; walk_at "less"
  · subst he
    refine sn_of (sx_retV rfl) ⟨_, ⟨n, L, rfl, ⟨?_, hL.2⟩, rfl⟩, rfl⟩
    have := hL.1
    omega
abbrev I_mixed := I_built fun _ n => 1 ≤ n ∧ n ≤ 60
theorem ok_l_mixed (T : Txt K mg A) : FnOk P w K mg base CX0 2 A.a_l_mixed A.d_l_mixed ["_law_first", "_law_size_here"] (spLN K R_doors I_mixed) := by
  refine T.f_l_mixed.ok sc_l_mixed (fun vs H Q E h => ?_) (fun cdv Ar outer s H vs Q E hr h => ?_)
  · obtain ⟨H0, ds, sm, dv, ⟨f, n, _, rfl⟩, _⟩ := h; exact dpa_len dv
  obtain ⟨H0, ds, sm, dv, ⟨f, n, hn, rfl⟩, q⟩ := h
  refine ⟨_, (pss_cons (ps_set (i := 2) sc_l_mixed.nd rfl (.inl rfl) (pe_callS (E := fun _ => E0) (ok_l_mix T) (hr.mono (by decide)) rfl T.g_l_mix T.f_l_mix.kp (b_l_mix T) (fun σ => pass0S) (pa_cons (pv 0) (pa_cons pe_int pa_nil))))
      (pss_cons (ps_set (i := 3) sc_l_mixed.nd rfl (.inl rfl) (pe_lst pa_nil))
      (pss_cons (ps_for PassesOwn.never rfl (pi_range1 rfl T.u_range (pa_cons (pe_op op_add pe_int (pe_op op_mod (pe_op op_fdiv (pv 2) pe_int) pe_int)) pa_nil)) (pg_name (i := 4) sc_l_mixed.nd rfl (Or.inl rfl))
        (pss_cons (ps_set (i := 5) sc_l_mixed.nd rfl (.inl rfl) (pe_ix (r := rIxL K) (by exact ix_list) (pe_lst (pa_cons pe_non (pa_cons pe_int (pa_cons pe_non (pa_cons pe_int (pa_cons pe_int (pa_cons pe_non (pa_cons pe_int (pa_cons pe_int pa_nil))))))))) (pe_op op_mod (pe_op op_add (pv 4) (pe_op op_fdiv (pv 2) pe_int)) pe_int) (fun _ _ => rfl)))
      (pss_cons (ps_set (i := 6) sc_l_mixed.nd rfl (.inl rfl) (pe_op op_mod (pe_op op_add (pe_op op_mul (pv 4) (pe_op op_add pe_int (pe_op op_mod (pe_op op_fdiv (pv 2) pe_int) pe_int))) (pv 2)) (pv 1)))
      (pss_one (ps_expr (pe_bm PySem.F.plainAttrs_list PySem.F.slot_list_append PySem.F.type_list_append mt_append (pv 3) (pa_cons (pe_tup (pa_cons (pv 6) (pa_cons (pe_op op_mod (pe_op op_add (pe_op op_mul (pv 4) (pv 4)) (pe_op op_fdiv (pv 2) pe_int)) (pv 1)) (pa_cons (pv 5) pa_nil)))) pa_nil)))))))
      (pss_one (ps_ret (pv 3)))))), ?_⟩
  refine Pf.runN (X := fun _ _ _ _ => False) (P := P_doors [.int f, .int n]) sm dv rfl ?_ (fun oc ⟨xs, r, e⟩ => by subst e; exact fun p ws G H2 fr w1 w2 w3 w4 => q xs r p ws G H2 fr (w1.elim False.elim id) w2 w3 w4)
  refine sn_seq1 (sx_set (ev_call (ea_cons (ev_var rfl) (ea_cons (ev_c rfl) ea_nil)) ⟨f, 0, rfl, rfl⟩)) ?_
  have z0 := mix_nn f 0
  have z1 := mix_lt f 0
  generalize mix f 0 = z at z0 z1
  refine sn_seq1 (sx_setO (eo_lst ea_nil (by decide))) ?_
  have n0 : 0 < n := by omega
  refine sn_seq (sn_forR1 (k := 41 + z / 16 % 50) (n := (41 + z / 16 % 50).toNat) (ea_cons ?_ ea_nil) (by omega) rfl (fun i e => ∃ L, Some n i L ∧ e = [.dat (.int f), .dat (.int n), .dat (.int z), .own (L.map doorD), .no, .no, .no]) ⟨[], Some.nil, rfl⟩ fun i e hi ⟨L, hL, he⟩ => ?_) fun e ⟨L, hL, he⟩ => ?_
  · walk_at "ev"; decide
  · subst he
    refine ⟨_, tg_name, ?_⟩
    have sz : L.length < 100000 := by have := hL.1; omega
    refine sn_seq1 (sx_set (d := optD ([none, some 0, none, some 1, some 2, none, some 3, some 4].getD (((i : Int) + z / 800) % 8).toNat none)) (ev_ixL (i := ((i : Int) + z / 800) % 8) ?_ ?_ (at8 (by omega) (by omega)))) ?_
    · walk_at "ev"
    · walk_at "ev"; decide
    refine sn_seq1 (sx_set (d := .int (((i : Int) * (1 + z / 6400 % 7) + z) % n)) ?_) ?_
    · walk_at "ev"
      · decide
      · exact cm0 (by omega)
      · exact n0
    refine sn_out1 (sx_app (d := doorD (((i : Int) * (1 + z / 6400 % 7) + z) % n, ((i : Int) * i + z / 50) % n, [none, some 0, none, some 1, some 2, none, some 3, some 4].getD (((i : Int) + z / 800) % 8).toNat none)) rfl (ev_tup (ea_cons (ev_var rfl) (ea_cons (ev_I (ev_I0 (ev_I (ev_var rfl) (ev_var rfl) (cm1 (by omega)) rfl) (ev_I (ev_var rfl) (ev_c rfl) ⟨by decide, by decide⟩ rfl) rfl) (ev_var rfl) n0 rfl) (ea_cons (ev_var rfl) ea_nil))) (Nat.le_of_ble_eq_true rfl)) (by rw [List.length_map]; exact sz)) ⟨[.dat (.int f), .dat (.int n), .dat (.int z), .own ((L ++ [(((i : Int) * (1 + z / 6400 % 7) + z) % n, ((i : Int) * i + z / 50) % n, [none, some 0, none, some 1, some 2, none, some 3, some 4].getD (((i : Int) + z / 800) % 8).toNat none)]).map doorD), .no, .no, .no], ?_, _, hL.add ⟨room_mod n0, room_mod n0, lk8 _⟩, rfl⟩
    rw [map_app]; walk_at "less"
  · subst he
    refine sn_of (sx_retV rfl) ⟨_, ⟨n, L, rfl, ⟨?_, hL.2⟩, rfl⟩, rfl⟩
    have := hL.1
    omega

/-! the doors, by the first cell -/
theorem pick2 {a b : Int} {c : Bool} : atI [PyData.int a, .int b] (if c = true then 1 else 0) = some (.int (if c = true then b else a)) := by cases c <;> rfl
theorem rep_one {α : Type} {x : α} : ∀ n : Nat, (List.replicate n [x]).flatten = List.replicate n x
  | 0 => rfl
  | n + 1 => by rw [List.replicate_succ, List.replicate_succ, List.flatten_cons, rep_one n]; rfl
def locks10 (m : Nat) : List (Option Int) := [some 3, some 1] ++ List.replicate m none ++ [some 0, some 2, some 4]
theorem locks10_len (m : Nat) : (locks10 m).length = m + 5 := by
  unfold locks10
  rw [List.length_append, List.length_append, List.length_replicate]; simp only [List.length_cons, List.length_nil]; omega
theorem locks10_ok (m i : Nat) : okLock ((locks10 m).getD i none) := by
  rw [List.getD_eq_getElem?_getD]
  cases e : (locks10 m)[i]? with
  | none => exact okLock_none
  | some o =>
    have h := List.mem_of_getElem? e
    unfold locks10 at h
    rcases List.mem_append.mp h with h | h
    · rcases List.mem_append.mp h with h | h
      · rcases List.mem_cons.mp h with h | h
        · rw [h]; exact okLock_some (by decide)
        · rw [List.mem_singleton.mp h]; exact okLock_some (by decide)
      · rw [(List.mem_replicate.mp h).2]; exact okLock_none
    · rcases List.mem_cons.mp h with h | h
      · rw [h]; exact okLock_some (by decide)
      · rcases List.mem_cons.mp h with h | h
        · rw [h]; exact okLock_some (by decide)
        · rw [List.mem_singleton.mp h]; exact okLock_some (by decide)
theorem locks10_dat (m : Nat) : [PyData.int 3, .int 1] ++ (List.replicate m [PyData.none]).flatten ++ [PyData.int 0, .int 2, .int 4] = (locks10 m).map optD := by
  unfold locks10
  rw [rep_one, List.map_append, List.map_append, List.map_replicate]; rfl
abbrev I_b := I_built sizeOk
theorem built_fin {n : Int} {ds : List PyData} (hd : ds[1]? = some (.int n)) {te : TE} {env : List SV} {X : WX} {g : Nat → Door} {m : Nat} (hm : m ≤ 600) (h : EvO K te env (((List.range m).filter fun _ => true).map fun k => doorD (g k))) (ok : ∀ k, k < m → okDoor n (g k)) : Sn K X (tRet te) env (P_doors ds) := by
  rw [comp_all] at h
  exact sn_of (sx_retO h) ⟨_, ⟨n, _, hd, ⟨Nat.le_trans (Some.map ok).1 hm, (Some.map ok).2⟩, rfl⟩, rfl⟩
theorem ok_l_built (T : Txt K mg A) : FnOk P w K mg base CX0 3 A.a_l_built A.d_l_built ["_law_first", "_law_size_here"] (spLN K R_doors I_b) := by
  refine T.f_l_built.ok sc_l_built (fun vs H Q E h => ?_) (fun cdv Ar outer s H vs Q E hr h => ?_)
  · obtain ⟨H0, ds, sm, dv, ⟨f, n, _, rfl⟩, _⟩ := h; exact dpa_len dv
  obtain ⟨H0, ds, sm, dv, ⟨f, n, hn, rfl⟩, q⟩ := h
  refine ⟨_, (pss_cons (ps_if (pt_cmpR op_eq (pe_op op_mod (pv 0) pe_int) pe_int (nomark _)) (pss_cons (ps_set (i := 2) sc_l_built.nd rfl (.inl rfl) (pe_lst pa_nil))
      (pss_cons (ps_for PassesOwn.never rfl (pi_range1 rfl T.u_range (pa_cons (pe_op op_sub pe_int (pe_op op_mod (pe_op op_fdiv (pv 0) pe_int) pe_int)) pa_nil)) (pg_name (i := 3) sc_l_built.nd rfl (Or.inl rfl))
        (pss_cons (ps_set (i := 4) sc_l_built.nd rfl (.inl rfl) (pe_op op_mod (pe_ix (r := rIxL K) (by exact ix_list) (pe_lst (pa_cons (pv 3) (pa_cons (pe_op op_mul (pv 3) (pv 3)) pa_nil))) (pe_callTy call_int1 (by rfl) T.u_int (by decide +kernel) (pa_cons (pe_cmpR op_ge (pv 3) (pv 1) (nomark _)) pa_nil)) (fun _ _ => rfl)) (pv 1)))
      (pss_cons (ps_set (i := 5) sc_l_built.nd rfl (.inl rfl) (pe_op op_mod (pe_ix (r := rIxL K) (by exact ix_list) (pe_lst (pa_cons (pe_op op_add (pv 3) pe_int) (pa_cons (pe_op op_mul (pv 3) pe_int) pa_nil))) (pe_callTy call_int1 (by rfl) T.u_int (by decide +kernel) (pa_cons (pe_cmpR op_ge (pv 3) (pv 1) (nomark _)) pa_nil)) (fun _ _ => rfl)) (pv 1)))
      (pss_one (ps_expr (pe_bm PySem.F.plainAttrs_list PySem.F.slot_list_append PySem.F.type_list_append mt_append (pv 2) (pa_cons (pe_tup (pa_cons (pv 4) (pa_cons (pv 5) (pa_cons (pe_ix (r := rIxL K) (by exact ix_list) (pe_lst (pa_cons pe_non (pa_cons pe_int (pa_cons pe_non (pa_cons (pe_op op_mod (pe_op op_fdiv (pv 3) pe_int) pe_int) (pa_cons (pe_op op_mod (pe_op op_add (pe_op op_fdiv (pv 0) pe_int) (pv 3)) pe_int) pa_nil)))))) (pe_op op_mod (pv 3) pe_int) (fun _ _ => rfl)) pa_nil)))) pa_nil)))))))
      (pss_one (ps_ret (pv 2))))) pss_nil)
      (pss_cons (ps_if (pt_cmpR op_eq (pe_op op_mod (pv 0) pe_int) pe_int (nomark _)) (pss_cons (ps_set (i := 6) sc_l_built.nd rfl (.inr rfl) (pe_op op_cat (pe_op op_cat (pe_lst (pa_cons pe_int (pa_cons pe_int pa_nil))) (pe_op op_rep (pe_lst (pa_cons pe_non pa_nil)) (pe_op op_sub (pv 1) pe_int))) (pe_lst (pa_cons pe_int (pa_cons pe_int (pa_cons pe_int pa_nil))))))
      (pss_one (ps_ret (pe_lc (own := [("_law_k", 3)]) (g := gName 3) rfl sc_l_built.nd (pi_range1 rfl T.u_range (pa_cons (pe_op op_sub (pv 1) pe_int) pa_nil)) (blkOk_by (own := [("_law_k", 3)]) (N := n_l_built) (sc := defScope s_l_built) (by decide +kernel))
        (fun _ _ _ _ _ => (pg_name (i := 3) sc_l_built.nd rfl (Or.inl rfl))) (fun _ _ _ _ _ => pts_nil) (fun _ _ _ _ _ => (pe_tup (pa_cons (pv 3) (pa_cons (pe_op op_add (pv 3) pe_int) (pa_cons (pe_ix (r := rIxL K) (by exact ix_list) (pv 6) (pv 3) (fun _ _ => rfl)) pa_nil))))))))) pss_nil)
      (pss_cons (ps_if (pt_cmpR op_eq (pe_op op_mod (pv 0) pe_int) pe_int (nomark _)) (pss_one (ps_ret (pe_lc (own := [("_law_k", 3)]) (g := gName 3) rfl sc_l_built.nd (pi_range2 rfl T.u_range (pa_cons pe_int (pa_cons (pv 1) pa_nil))) (blkOk_by (own := [("_law_k", 3)]) (N := n_l_built) (sc := defScope s_l_built) (by decide +kernel))
        (fun _ _ _ _ _ => (pg_name (i := 3) sc_l_built.nd rfl (Or.inl rfl))) (fun _ _ _ _ _ => pts_nil) (fun _ _ _ _ _ => (pe_tup (pa_cons pe_int (pa_cons (pv 3) (pa_cons pe_non pa_nil)))))))) pss_nil)
      (pss_cons (ps_if (pt_cmpR (r := rIn K false) (by exact op_in_seq) (pe_op op_mod (pv 0) pe_int) (pe_tup (pa_cons pe_int (pa_cons pe_int pa_nil))) (by rfl)) (pss_one (ps_ret (pe_callS (E := fun _ => E0) (ok_l_ranks T) (hr.mono (by decide)) rfl T.g_l_ranks T.f_l_ranks.kp (b_l_ranks T) (fun σ => pass0S) (pa_cons (pv 0) (pa_cons (pv 1) pa_nil))))) pss_nil)
      (pss_cons (ps_if (pt_cmpR op_eq (pe_op op_mod (pv 0) pe_int) pe_int (nomark _)) (pss_one (ps_ret (pe_callS (E := fun _ => E0) (ok_l_many T) (hr.mono (by decide)) rfl T.g_l_many T.f_l_many.kp (b_l_many T) (fun σ => pass0S) (pa_cons (pv 0) (pa_cons (pv 1) pa_nil))))) pss_nil)
      (pss_cons (ps_if (pt_cmpR op_eq (pe_op op_mod (pv 0) pe_int) pe_int (nomark _)) (pss_one (ps_ret (pe_callS (E := fun _ => E0) (ok_l_mixed T) (hr.mono (by decide)) rfl T.g_l_mixed T.f_l_mixed.kp (b_l_mixed T) (fun σ => pass0S) (pa_cons (pv 0) (pa_cons (pv 1) pa_nil))))) pss_nil)
      (pss_cons (ps_if (pt_cmpR op_eq (pe_op op_mod (pv 0) pe_int) pe_int (nomark _)) (pss_cons (ps_set (i := 7) sc_l_built.nd rfl (.inr rfl) (pe_op op_mod (pe_op op_fdiv (pe_callS (E := fun _ => E0) (ok_l_mix T) (hr.mono (by decide)) rfl T.g_l_mix T.f_l_mix.kp (b_l_mix T) (fun σ => pass0S) (pa_cons (pv 0) (pa_cons pe_int pa_nil))) pe_int) pe_int))
      (pss_one (ps_ret (pe_lc (own := [("_law_k", 3)]) (g := gName 3) rfl sc_l_built.nd (pi_range1 rfl T.u_range (pa_cons (pe_op op_sub (pv 1) pe_int) pa_nil)) (blkOk_by (own := [("_law_k", 3)]) (N := n_l_built) (sc := defScope s_l_built) (by decide +kernel))
        (fun _ _ _ _ _ => (pg_name (i := 3) sc_l_built.nd rfl (Or.inl rfl))) (fun _ _ _ _ _ => pts_nil) (fun _ _ _ _ _ => (pe_tup (pa_cons (pv 3) (pa_cons (pe_op op_add (pv 3) pe_int) (pa_cons (pe_callS (E := fun _ => E0) (ok_l_lock T) (hr.mono (by decide)) rfl T.g_l_lock T.f_l_lock.kp (b_l_lock T) (fun σ => pass0S) (pa_cons (pe_op op_mul (pe_op op_add (pv 3) pe_int) (pv 7)) pa_nil)) pa_nil))))))))) pss_nil)
      (pss_cons (ps_if (pt_cmpR op_eq (pe_op op_mod (pv 0) pe_int) pe_int (nomark _)) (pss_one (ps_ret (pe_lc (own := [("_law_k", 3)]) (g := gName 3) rfl sc_l_built.nd (pi_range2 rfl T.u_range (pa_cons pe_int (pa_cons (pv 1) pa_nil))) (blkOk_by (own := [("_law_k", 3)]) (N := n_l_built) (sc := defScope s_l_built) (by decide +kernel))
        (fun _ _ _ _ _ => (pg_name (i := 3) sc_l_built.nd rfl (Or.inl rfl))) (fun _ _ _ _ _ => pts_nil) (fun _ _ _ _ _ => (pe_tup (pa_cons (pv 3) (pa_cons pe_int (pa_cons (pe_ix (r := rIxL K) (by exact ix_list) (pe_lst (pa_cons pe_non (pa_cons pe_int (pa_cons pe_int (pa_cons pe_int (pa_cons pe_int pa_nil)))))) (pe_op op_sub (pv 3) pe_int) (fun _ _ => rfl)) pa_nil)))))))) pss_nil)
      (pss_one (ps_ret (pe_lst pa_nil))))))))))), ?_⟩
  refine Pf.runN (X := fun _ _ _ _ => False) (P := P_doors [.int f, .int n]) sm dv rfl ?_ (fun oc ⟨xs, r, e⟩ => by subst e; exact fun p ws G H2 fr w1 w2 w3 w4 => q xs r p ws G H2 fr (w1.elim False.elim id) w2 w3 w4)
  obtain ⟨⟨hn1, hn60⟩, h68, h10, h5, h3⟩ := hn
  have n0 : 0 < n := by omega
  have eq : ∀ c : Int, EvT K (tTest (tOp rEq (tOp (rI (fun _ j => 0 < j) fun i j => V.int (i % j)) (tVar 0) (tC (.int 12))) (tC (.int c)))) [.dat (.int f), .dat (.int n), .no, .no, .no, .no, .no, .no] (decide (f % 12 = c)) := fun c => by
    walk_at "ev"; decide
  have eq6 : ∀ c : Int, EvT K (tTest (tOp rEq (tOp (rI (fun _ j => 0 < j) fun i j => V.int (i % j)) (tVar 0) (tC (.int 6))) (tC (.int c)))) [.dat (.int f), .dat (.int n), .no, .no, .no, .no, .no, .no] (decide (f % 6 = c)) := fun c => by
    walk_at "ev"; decide
  refine sn_when (eq 4) (fun c => ?_) doors_fin (fun c4 => ?_)
  · refine sn_seq1 (sx_setO (eo_lst ea_nil (by decide))) ?_
    refine sn_seq (sn_forR1 (k := 90 - f / 12 % 3) (n := (90 - f / 12 % 3).toNat) (ea_cons ?_ ea_nil) (by omega) rfl (fun i e => ∃ L, Some n i L ∧ e = [.dat (.int f), .dat (.int n), .own (L.map doorD), .no, .no, .no, .no, .no]) ⟨[], Some.nil, rfl⟩ fun i e hi ⟨L, hL, he⟩ => ?_) fun e ⟨L, hL, he⟩ => ?_
    · walk_at "ev"; decide
    · subst he
      refine ⟨_, tg_name, ?_⟩
      have sz : L.length < 100000 := by have := hL.1; omega
      refine sn_seq1 (sx_set (d := .int ((if decide (n ≤ (i : Int)) = true then (i : Int) * i else i) % n)) (ev_I (ev_ixL (ds := [.int i, .int ((i : Int) * i)]) ?_ (ev_intb ?_) pick2) (ev_var rfl) n0 rfl)) ?_
      · walk_at "ev"; exact cm1 (by omega)
      · walk_at "ev"
      refine sn_seq1 (sx_set (d := .int ((if decide (n ≤ (i : Int)) = true then (i : Int) * 7 else (i : Int) + 1) % n)) (ev_I (ev_ixL (ds := [.int ((i : Int) + 1), .int ((i : Int) * 7)]) ?_ (ev_intb ?_) pick2) (ev_var rfl) n0 rfl)) ?_
      · walk_at "ev"
      · walk_at "ev"
      have lk : okLock ([none, some 4, none, some ((i : Int) / 5 % 4), some ((f / 36 + i) % 5)].getD ((i : Int) % 5).toNat none) := by
        have : (i : Int) % 5 = 0 ∨ (i : Int) % 5 = 1 ∨ (i : Int) % 5 = 2 ∨ (i : Int) % 5 = 3 ∨ (i : Int) % 5 = 4 := by omega
        rcases this with h | h | h | h | h <;> rw [h]
        · exact okLock_none
        · exact okLock_some (by decide)
        · exact okLock_none
        · exact okLock_some (k := (i : Int) / 5 % 4) (by omega)
        · exact okLock_some (k := (f / 36 + i) % 5) (by omega)
      have la : atI [PyData.none, .int 4, .none, .int ((i : Int) / 5 % 4), .int ((f / 36 + i) % 5)] ((i : Int) % 5) = some (optD ([none, some 4, none, some ((i : Int) / 5 % 4), some ((f / 36 + i) % 5)].getD ((i : Int) % 5).toNat none)) :=
        atI_map (f := optD) (l := [none, some 4, none, some ((i : Int) / 5 % 4), some ((f / 36 + i) % 5)]) none (by omega) (by show (i : Int) % 5 < 5; omega)
      generalize [none, some 4, none, some ((i : Int) / 5 % 4), some ((f / 36 + i) % 5)].getD ((i : Int) % 5).toNat none = l at lk la
      have r1 : inRoom n ((if decide (n ≤ (i : Int)) = true then (i : Int) * i else i) % n) := room_mod n0
      have r2 : inRoom n ((if decide (n ≤ (i : Int)) = true then (i : Int) * 7 else (i : Int) + 1) % n) := room_mod n0
      generalize (if decide (n ≤ (i : Int)) = true then (i : Int) * i else i) % n = u at r1
      generalize (if decide (n ≤ (i : Int)) = true then (i : Int) * 7 else (i : Int) + 1) % n = v at r2
      refine sn_out1 (sx_app (d := doorD (u, v, l)) rfl (ev_tup (ea_cons (ev_var rfl) (ea_cons (ev_var rfl) (ea_cons (ev_ixL (ds := [.none, .int 4, .none, .int ((i : Int) / 5 % 4), .int ((f / 36 + i) % 5)]) ?_ ?_ la) ea_nil))) (Nat.le_of_ble_eq_true rfl)) (by rw [List.length_map]; exact sz)) ⟨[.dat (.int f), .dat (.int n), .own ((L ++ [(u, v, l)]).map doorD), .no, .no, .no, .no, .no], ?_, _, hL.add ⟨r1, r2, lk⟩, rfl⟩
      · walk_at "ev" <;> decide
      · walk_at "ev"; decide
      · rw [map_app]; walk_at "less"
    · subst he
      refine sn_of (sx_retV rfl) ⟨_, ⟨n, L, rfl, ⟨?_, hL.2⟩, rfl⟩, rfl⟩
      have := hL.1
      omega
  refine sn_when (eq 10) (fun c => ?_) doors_fin (fun c10 => ?_)
  · have hn20 := h10 (of_decide_eq_true c)
    refine sn_seq1 (sx_setO (eo_cat (EvO.l (eo_cat (EvO.l (eo_lst (ds := [.int 3, .int 1]) ?_ (by decide))) (EvO.l (eo_rep (i := n - 6) (EvO.l (eo_lst (ds := [.none]) ?_ (by decide))) ?_ (by omega) ?_)) ?_)) (EvO.l (eo_lst (ds := [.int 0, .int 2, .int 4]) ?_ (by decide))) ?_)) ?_
    · walk_at "ev"
    · walk_at "ev"
    · walk_at "ev"
    · show 1 * (n - 6).toNat ≤ 100000; omega
    · rw [rep_one, List.length_replicate]; show 2 + (n - 6).toNat ≤ 100000; omega
    · walk_at "ev"
    · rw [rep_one, List.length_append, List.length_replicate]; show 2 + (n - 6).toNat + 3 ≤ 100000; omega
    rw [locks10_dat]
    refine sn_fix 6 rfl ?_
    refine built_fin (n := n) rfl (g := fun k => ((k : Int), (k : Int) + 1, (locks10 (n - 6).toNat).getD k none)) (m := (n - 1).toNat) (by omega) (eo_lcR (k := n - 1) (fun _ => true) _ (ea_cons (ev_I0 (ev_var rfl) (ev_c rfl) rfl) ea_nil) (by omega) rfl fun k hk => ⟨_, tgw_name (by decide), et_yes, fun _ => ?_⟩) fun k hk => ⟨⟨by show 0 ≤ (k : Int); omega, by show (k : Int) < n; omega⟩, ⟨by show 0 ≤ (k : Int) + 1; omega, by show (k : Int) + 1 < n; omega⟩, locks10_ok _ _⟩
    refine ev_tup (ea_cons (ev_var rfl) (ea_cons (ev_I0 (ev_var rfl) (ev_c rfl) rfl) (ea_cons (ev_ixL (ev_var rfl) (ev_var rfl) ?_) ea_nil))) (Nat.le_of_ble_eq_true rfl)
    exact atI_map (f := optD) none (by omega) (by rw [locks10_len]; omega)
  refine sn_when (eq 7) (fun c => ?_) doors_fin (fun c7 => ?_)
  · refine built_fin (n := n) rfl (g := fun k => (0, 1 + (k : Int), none)) (m := (n - 1).toNat) (by omega) (eo_lcR2 (lo := 1) (k := n) (fun _ => true) _ (ea_cons (ev_c rfl) (ea_cons (ev_var rfl) ea_nil)) (by omega) (by decide) rfl (by omega) fun k hk => ⟨_, tgw_name (by decide), et_yes, fun _ => ?_⟩) fun k hk => ⟨⟨by show (0 : Int) ≤ 0; decide, n0⟩, ⟨by show 0 ≤ 1 + (k : Int); omega, by show 1 + (k : Int) < n; omega⟩, okLock_none⟩
    exact ev_tup (ea_cons (ev_c rfl) (ea_cons (ev_var rfl) (ea_cons (ev_c rfl) ea_nil))) (Nat.le_of_ble_eq_true rfl)
  refine sn_when (b := decide (f % 12 = 6 ∨ f % 12 = 8)) (EvT.is (b := [PyData.int 6, .int 8].any fun z => eqF z (.int (f % 12))) (by walk_at "ev"; decide) (any2 _ _ _)) (fun c => sn_retN (ea_cons (ev_var rfl) (ea_cons (ev_var rfl) ea_nil)) ⟨f, n, h68 (of_decide_eq_true c), rfl⟩ fun xs r => ⟨xs, r, rfl⟩) doors_fin (fun c68 => ?_)
  refine sn_when (eq 5) (fun c => sn_retN (ea_cons (ev_var rfl) (ea_cons (ev_var rfl) ea_nil)) ⟨f, n, ⟨by have := h5 (of_decide_eq_true c); omega, hn60⟩, rfl⟩ fun xs r => ⟨xs, r, rfl⟩) doors_fin (fun c5 => ?_)
  refine sn_when (eq 9) (fun c => sn_retN (ea_cons (ev_var rfl) (ea_cons (ev_var rfl) ea_nil)) ⟨f, n, ⟨hn1, hn60⟩, rfl⟩ fun xs r => ⟨xs, r, rfl⟩) doors_fin (fun c9 => ?_)
  refine sn_when (eq6 2) (fun c => ?_) doors_fin (fun c62 => ?_)
  · have z0 := mix_nn f 0
    have z1 := mix_lt f 0
    refine sn_seq1 (sx_set (d := .int (mix f 0 / 30 % 8)) (ev_I (ev_I (ev_call (ea_cons (ev_var rfl) (ea_cons (ev_c rfl) ea_nil)) ⟨f, 0, rfl, rfl⟩) (ev_c rfl) ⟨by decide, by decide⟩ rfl) (ev_c rfl) (by decide) rfl)) ?_
    generalize mix f 0 = z at z0 z1
    refine built_fin (n := n) rfl (g := fun k => ((k : Int), (k : Int) + 1, lockF (((k : Int) + 1) * (z / 30 % 8)))) (m := (n - 1).toNat) (by omega) (eo_lcR (k := n - 1) (fun _ => true) _ (ea_cons (ev_I0 (ev_var rfl) (ev_c rfl) rfl) ea_nil) (by omega) rfl fun k hk => ⟨_, tgw_name (by decide), et_yes, fun _ => ?_⟩) fun k hk => ⟨⟨by show 0 ≤ (k : Int); omega, by show (k : Int) < n; omega⟩, ⟨by show 0 ≤ (k : Int) + 1; omega, by show (k : Int) + 1 < n; omega⟩, lockF_ok _⟩
    exact ev_tup (ea_cons (ev_var rfl) (ea_cons (ev_I0 (ev_var rfl) (ev_c rfl) rfl) (ea_cons (ev_call (ea_cons (ev_I (ev_I0 (ev_var rfl) (ev_c rfl) rfl) (ev_var rfl) (cm1 (by omega)) rfl) ea_nil) ⟨_, rfl, rfl⟩) ea_nil))) (Nat.le_of_ble_eq_true rfl)
  refine sn_when (eq6 3) (fun c => ?_) doors_fin (fun c63 => ?_)
  · have hn6 : n ≤ 6 := by
      have := of_decide_eq_true c
      have := of_decide_eq_false c9
      exact h3 (by omega)
    refine built_fin (n := n) rfl (g := fun k => (1 + (k : Int), 0, [none, some 0, some 1, some 2, some 3].getD k none)) (m := (n - 1).toNat) (by omega) (eo_lcR2 (lo := 1) (k := n) (fun _ => true) _ (ea_cons (ev_c rfl) (ea_cons (ev_var rfl) ea_nil)) (by omega) (by decide) rfl (by omega) fun k hk => ⟨_, tgw_name (by decide), et_yes, fun _ => ?_⟩) fun k hk => ⟨⟨by show 0 ≤ 1 + (k : Int); omega, by show 1 + (k : Int) < n; omega⟩, ⟨by show (0 : Int) ≤ 0; decide, n0⟩, okLock_all (by decide) _⟩
    refine ev_tup (ea_cons (ev_var rfl) (ea_cons (ev_c rfl) (ea_cons (ev_ixL (ds := [.none, .int 0, .int 1, .int 2, .int 3]) (i := 1 + (k : Int) - 1) ?_ ?_ ?_) ea_nil))) (Nat.le_of_ble_eq_true rfl)
    · walk_at "ev"
    · walk_at "ev"
    · have e : 1 + (k : Int) - 1 = (k : Int) := by omega
      rw [e]
      exact atI_map (f := optD) (l := [none, some 0, some 1, some 2, some 3]) none (by omega) (by show (k : Int) < 5; omega)
  exact sn_of (sx_retO (eo_lst ea_nil (by decide))) ⟨_, ⟨n, [], rfl, ⟨Nat.zero_le _, fun _ h => nomatch h⟩, rfl⟩, rfl⟩
/-! all doors -/
def R_alld (ds : List PyData) (xs : List PyData) : Prop := ∃ (n : Int) (L : List Door), ds[1]? = some (.int n) ∧ (L.length ≤ 700 ∧ ∀ d ∈ L, okDoor n d) ∧ xs = L.map doorD
abbrev P_alld (ds : List PyData) : Oc → Prop := fun oc => ∃ xs, R_alld ds xs ∧ oc = .rl xs
theorem alld_fin {ds : List PyData} : ∀ oc : Oc, P_alld ds oc → oc.isNx = false := fun oc ⟨d, _, e⟩ => by rw [e]; rfl
def I_maze (ds : List PyData) : Prop := ∃ (ns : List Int) (n : Int), ns.length ≤ 63 ∧ sizeOk (cellAt ns 0) n ∧ ds = [.list (ns.map .int), .int n]
theorem at_ns {ns : List Int} {k : Int} (h : 0 ≤ k) (h1 : k < ns.length) : atI (ns.map PyData.int) k = some (.int (ns.getD k.toNat 0)) := atI_map 0 h h1
theorem ok_l_doors (T : Txt K mg A) : FnOk P w K mg base CX0 4 A.a_l_doors A.d_l_doors ["_law_script", "_law_size_here"] (spLN K R_alld I_maze) := by
  refine T.f_l_doors.ok sc_l_doors (fun vs H Q E h => ?_) (fun cdv Ar outer s H vs Q E hr h => ?_)
  · obtain ⟨H0, ds, sm, dv, ⟨ns, n, _, _, rfl⟩, _⟩ := h; exact dpa_len dv
  obtain ⟨H0, ds, sm, dv, ⟨ns, n, hns, hn, rfl⟩, q⟩ := h
  refine ⟨_, (pss_cons (ps_set (i := 2) sc_l_doors.nd rfl (.inl rfl) (pe_callS (E := fun _ => E0) (ok_l_cell_at T) (hr.mono (by decide)) rfl T.g_l_cell_at T.f_l_cell_at.kp (b_l_cell_at T) (fun σ => pass0S) (pa_cons (pv 0) (pa_cons pe_int pa_nil))))
      (pss_cons (ps_set (i := 3) sc_l_doors.nd rfl (.inl rfl) (pe_callS (E := fun _ => E0) (ok_l_built T) (hr.mono (by decide)) rfl T.g_l_built T.f_l_built.kp (b_l_built T) (fun σ => pass0S) (pa_cons (pv 2) (pa_cons (pv 1) pa_nil))))
      (pss_cons (ps_if (pt_cmpR (r := rIn K false) (by exact op_in_seq) (pe_op op_mod (pv 2) pe_int) (pe_tup (pa_cons pe_int (pa_cons pe_int (pa_cons pe_int (pa_cons pe_int (pa_cons pe_int (pa_cons pe_int (pa_cons pe_int pa_nil)))))))) (by rfl)) (pss_one (ps_ret (pv 3))) pss_nil)
      (pss_cons (ps_for PassesOwn.never rfl (pi_range2 rfl T.u_range (pa_cons pe_int (pa_cons (pe_callB (call_min2 rfl) (by rfl) T.u_min (by decide +kernel) (pa_cons (pe_callB call_len_seq (by rfl) T.u_len (by decide +kernel) (pa_cons (pv 0) pa_nil)) (pa_cons pe_int pa_nil))) pa_nil))) (pg_name (i := 4) sc_l_doors.nd rfl (Or.inl rfl))
        (pss_cons (ps_set (i := 5) sc_l_doors.nd rfl (.inl rfl) (pe_ix (r := rIxL K) (by exact ix_list) (pv 0) (pv 4) (fun _ _ => rfl)))
      (pss_one (ps_if (PW.pt (pw_and (pt_cmpR op_ne (pe_op op_mod (pv 4) pe_int) pe_int (nomark _)) (pw_and1 (PW.pt (pw_or (pt_cmpR (r := rIn K true) (by exact op_notIn_seq) (pe_op op_mod (pv 2) pe_int) (pe_tup (pa_cons pe_int (pa_cons pe_int pa_nil))) (by rfl)) (pw_or1 (pt_cmpR op_gt (pv 4) pe_int (nomark _)))))))) (pss_cons (ps_set (i := 6) sc_l_doors.nd rfl (.inl rfl) (pe_op op_mod (pe_callS (E := fun _ => E0) (ok_l_mix T) (hr.mono (by decide)) rfl T.g_l_mix T.f_l_mix.kp (b_l_mix T) (fun σ => pass0S) (pa_cons (pv 5) (pa_cons pe_int pa_nil))) (pv 1)))
      (pss_one (ps_expr (pe_bm PySem.F.plainAttrs_list PySem.F.slot_list_append PySem.F.type_list_append mt_append (pv 3) (pa_cons (pe_tup (pa_cons (pv 6) (pa_cons (pe_op op_mod (pe_callS (E := fun _ => E0) (ok_l_mix T) (hr.mono (by decide)) rfl T.g_l_mix T.f_l_mix.kp (b_l_mix T) (fun σ => pass0S) (pa_cons (pv 5) (pa_cons pe_int pa_nil))) (pv 1)) (pa_cons (pe_callS (E := fun _ => E0) (ok_l_lock T) (hr.mono (by decide)) rfl T.g_l_lock T.f_l_lock.kp (b_l_lock T) (fun σ => pass0S) (pa_cons (pe_callS (E := fun _ => E0) (ok_l_mix T) (hr.mono (by decide)) rfl T.g_l_mix T.f_l_mix.kp (b_l_mix T) (fun σ => pass0S) (pa_cons (pv 5) (pa_cons pe_int pa_nil))) pa_nil)) pa_nil)))) pa_nil))))) pss_nil))))
      (pss_one (ps_ret (pv 3))))))), ?_⟩
  refine Pf.runN (X := fun _ _ _ _ => False) (P := P_alld [.list (ns.map .int), .int n]) sm dv rfl ?_ (fun oc ⟨xs, r, e⟩ => by subst e; exact fun p ws G H2 fr w1 w2 w3 w4 => q xs r p ws G H2 fr (w1.elim False.elim id) w2 w3 w4)
  have n0 : 0 < n := by have := hn.1; omega
  refine sn_seq1 (sx_set (ev_call (ea_cons (ev_var rfl) (ea_cons (ev_c rfl) ea_nil)) ⟨ns, 0, by decide, rfl, rfl⟩)) ?_
  generalize cellAt ns 0 = f at hn
  refine sn_seq (sn_setN (ea_cons (ev_var rfl) (ea_cons (ev_var rfl) ea_nil)) ⟨f, n, hn, rfl⟩) fun e ⟨xs, ⟨n', L, e1, hL, exs⟩, he⟩ => ?_
  obtain rfl : n = n' := PyData.int.inj (Option.some.inj e1)
  subst exs he
  apply sn_when
  · walk_at "ev"; decide
  · intro _
    exact sn_of (sx_retV rfl) ⟨_, ⟨n, L, rfl, ⟨Nat.le_trans hL.1 (by decide), hL.2⟩, rfl⟩, rfl⟩
  · exact alld_fin
  · intro _
    refine sn_seq (sn_forR2 (lo := 3) (k := if (27 : Int) < (ns.length : Int) then 27 else (ns.length : Int)) (n := ((if (27 : Int) < (ns.length : Int) then 27 else (ns.length : Int)) - 3).toNat) (ea_cons (ev_c rfl) (ea_cons (Ev.is (d := .int (if (27 : Int) < ((ns.map PyData.int).length : Int) then 27 else ((ns.map PyData.int).length : Int))) (ev_min2 (ev_len (ev_var rfl)) (ev_c rfl)) (by rw [List.length_map])) ea_nil)) (by split <;> omega) (by decide) rfl (fun i e => ∃ L, Some n (600 + i) L ∧ e = [.dat (.list (ns.map .int)), .dat (.int n), .dat (.int f), .own (L.map doorD), .no, .no, .no]) ⟨L, ⟨hL.1, hL.2⟩, rfl⟩ fun i e hi ⟨L, hL, he⟩ => ?_) fun e ⟨L, hL, he⟩ => ?_
    · subst he
      refine ⟨_, tg_name, ?_⟩
      have hi' : (3 : Int) + i < 27 ∧ (3 : Int) + i < ns.length := by split at hi <;> omega
      have sz : L.length < 100000 := by have := hL.1; omega
      refine sn_seq1 (sx_set (ev_ixL (ev_var rfl) (ev_var rfl) (at_ns (by omega) hi'.2))) ?_
      generalize ns.getD (3 + (i : Int)).toNat 0 = c
      apply sn_if
      · walk_at "ev" <;> decide
      · intro _
        refine sn_seq1 (sx_set (ev_I (ev_call (ea_cons (ev_var rfl) (ea_cons (ev_c rfl) ea_nil)) ⟨c, 0, rfl, rfl⟩) (ev_var rfl) n0 rfl)) ?_
        refine sn_out1 (sx_app (d := doorD (mix c 0 % n, mix c 1 % n, lockF (mix c 2))) rfl (ev_tup (ea_cons (ev_var rfl) (ea_cons (ev_I (ev_call (ea_cons (ev_var rfl) (ea_cons (ev_c rfl) ea_nil)) ⟨c, 1, rfl, rfl⟩) (ev_var rfl) n0 rfl) (ea_cons (ev_call (ea_cons (ev_call (ea_cons (ev_var rfl) (ea_cons (ev_c rfl) ea_nil)) ⟨c, 2, rfl, rfl⟩) ea_nil) ⟨_, rfl, rfl⟩) ea_nil))) (Nat.le_of_ble_eq_true rfl)) (by rw [List.length_map]; exact sz)) ⟨[.dat (.list (ns.map .int)), .dat (.int n), .dat (.int f), .own ((L ++ [(mix c 0 % n, mix c 1 % n, lockF (mix c 2))]).map doorD), .no, .no, .no], ?_, _, hL.add ⟨room_mod n0, room_mod n0, lockF_ok _⟩, rfl⟩
        rw [map_app]; walk_at "less"
      · intro _
        exact sn_out1 sx_next ⟨_, by walk_at "less", L, hL.le (by omega), rfl⟩
    · subst he
      refine sn_of (sx_retV rfl) ⟨_, ⟨n, L, rfl, ⟨?_, hL.2⟩, rfl⟩, rfl⟩
      have := hL.1
      split at this <;> omega

/-! the maze that is built: the lying keys -/
def okKey (n : Int) (k : Key2) : Prop := inRoom n k.1 ∧ 0 ≤ k.2 ∧ k.2 < 5
def SomeK (n : Int) (m : Nat) (L : List Key2) : Prop := L.length ≤ m ∧ ∀ k ∈ L, okKey n k
theorem SomeK.add {n : Int} {m : Nat} {L : List Key2} {d : Key2} (h : SomeK n m L) (k : okKey n d) : SomeK n (m + 1) (L ++ [d]) := by
  refine ⟨by rw [List.length_append]; exact Nat.add_le_add_right h.1 1, fun x hx => ?_⟩
  rcases List.mem_append.mp hx with z | z
  · exact h.2 x z
  · rw [List.mem_singleton.mp z]; exact k
theorem SomeK.map {n : Int} {m : Nat} {g : Nat → Key2} {p : Nat → Bool} (h : ∀ k, k < m → okKey n (g k)) : SomeK n m (((List.range m).filter p).map g) :=
  ⟨by rw [List.length_map]; exact Nat.le_trans (List.length_filter_le _ _) (by rw [List.length_range]; exact Nat.le_refl _), fun d hd => by
    obtain ⟨k, hk, rfl⟩ := List.mem_map.mp hd
    exact h k (List.mem_range.mp (List.mem_filter.mp hk).1)⟩
theorem SomeK.cat {n : Int} {a b : Nat} {L M : List Key2} (h : SomeK n a L) (k : SomeK n b M) : SomeK n (a + b) (L ++ M) :=
  ⟨by rw [List.length_append]; exact Nat.add_le_add h.1 k.1, fun x hx => (List.mem_append.mp hx).elim (h.2 x) (k.2 x)⟩
theorem mapk_app {L : List Key2} {d : Key2} : (L ++ [d]).map keyD = L.map keyD ++ [keyD d] := by rw [List.map_append]; rfl
def R_lying (ds : List PyData) (xs : List PyData) : Prop := ∃ (n : Int) (L : List Key2), ds[1]? = some (.int n) ∧ SomeK n 60 L ∧ xs = L.map keyD
abbrev P_lying (ds : List PyData) : Oc → Prop := fun oc => ∃ xs, R_lying ds xs ∧ oc = .rl xs
theorem lying_fin {ds : List PyData} : ∀ oc : Oc, P_lying ds oc → oc.isNx = false := fun oc ⟨d, _, e⟩ => by rw [e]; rfl
theorem lying_by {n : Int} {ds : List PyData} (hd : ds[1]? = some (.int n)) {te : TE} {env : List SV} {X : WX} {g : Nat → Key2} {p : Nat → Bool} {m : Nat} (hm : m ≤ 60) (h : EvO K te env (((List.range m).filter p).map fun k => keyD (g k))) (ok : ∀ k, k < m → okKey n (g k)) : Sn K X (tRet te) env (P_lying ds) := by
  refine sn_of (sx_retO h) ⟨_, ⟨n, ((List.range m).filter p).map g, hd, ⟨Nat.le_trans (SomeK.map (p := p) ok).1 hm, (SomeK.map ok).2⟩, ?_⟩, rfl⟩
  rw [List.map_map]; rfl
theorem rg5 : ∀ j : Fin 28, RgC 5 (j.val : Int) 3 (((j.val : Int) - 3) / 3).toNat := by
  unfold RgC
  decide +kernel
theorem rg5' {j : Int} (h : 0 ≤ j) (h1 : j ≤ 27) : RgC 5 j 3 ((j - 3) / 3).toNat := by
  have := rg5 ⟨j.toNat, by omega⟩
  have e : ((j.toNat : Nat) : Int) = j := by omega
  simpa only [e] using this
theorem ok_l_lying (T : Txt K mg A) : FnOk P w K mg base CX0 2 A.a_l_lying A.d_l_lying ["_law_script", "_law_size_here"] (spLN K R_lying I_maze) := by
  refine T.f_l_lying.ok sc_l_lying (fun vs H Q E h => ?_) (fun cdv Ar outer s H vs Q E hr h => ?_)
  · obtain ⟨H0, ds, sm, dv, ⟨ns, n, _, _, rfl⟩, _⟩ := h; exact dpa_len dv
  obtain ⟨H0, ds, sm, dv, ⟨ns, n, hns, hn, rfl⟩, q⟩ := h
  refine ⟨_, (pss_cons (ps_set (i := 2) sc_l_lying.nd rfl (.inl rfl) (pe_callS (E := fun _ => E0) (ok_l_cell_at T) (hr.mono (by decide)) rfl T.g_l_cell_at T.f_l_cell_at.kp (b_l_cell_at T) (fun σ => pass0S) (pa_cons (pv 0) (pa_cons pe_int pa_nil))))
      (pss_cons (ps_set (i := 3) sc_l_lying.nd rfl (.inr rfl) (pe_op op_fdiv (pe_callS (E := fun _ => E0) (ok_l_cell_at T) (hr.mono (by decide)) rfl T.g_l_cell_at T.f_l_cell_at.kp (b_l_cell_at T) (fun σ => pass0S) (pa_cons (pv 0) (pa_cons pe_int pa_nil))) pe_int))
      (pss_cons (ps_if (pt_cmpR op_eq (pe_op op_mod (pv 2) pe_int) pe_int (nomark _)) (pss_cons (ps_setLc (i := 4) (own := [("_law_k", 5)]) (g := gName 5) rfl sc_l_lying.nd rfl rfl (sw_true rfl rfl rfl (by decide +kernel)) (pi_range1 rfl T.u_range (pa_cons pe_int pa_nil)) (blkOk_by (own := [("_law_k", 5)]) (N := n_l_lying) (sc := defScope s_l_lying) (by decide +kernel))
        (fun _ _ _ _ _ => (pg_name (i := 5) sc_l_lying.nd rfl (Or.inl rfl))) (fun _ _ _ _ _ => pts_nil) (fun _ _ _ _ _ => (pe_tup (pa_cons (pe_op op_mod (pe_op op_add (pe_op op_mul (pv 3) (pe_op op_add (pe_op op_mul pe_int (pv 5)) pe_int)) (pv 5)) (pv 1)) (pa_cons (pv 5) pa_nil)))))
      (pss_one (ps_ret (pe_op op_cat (pv 4) (pe_lc (own := [("_law_k", 5)]) (g := gName 5) rfl sc_l_lying.nd (pi_range1 rfl T.u_range (pa_cons pe_int pa_nil)) (blkOk_by (own := [("_law_k", 5)]) (N := n_l_lying) (sc := defScope s_l_lying) (by decide +kernel))
        (fun _ _ _ _ _ => (pg_name (i := 5) sc_l_lying.nd rfl (Or.inl rfl))) (fun _ _ _ _ _ => (pts_one (pt_cmpR op_eq (pe_op op_mod (pv 5) pe_int) pe_int (nomark _)))) (fun _ _ _ _ _ => (pe_tup (pa_cons (pe_op op_mod (pe_op op_add (pv 5) (pv 3)) (pv 1)) (pa_cons pe_int pa_nil))))))))) pss_nil)
      (pss_cons (ps_if (pt_cmpR op_eq (pe_op op_mod (pv 2) pe_int) pe_int (nomark _)) (pss_one (ps_ret (pe_lst (pa_cons (pe_tup (pa_cons pe_int (pa_cons pe_int pa_nil))) (pa_cons (pe_tup (pa_cons (pe_op op_sub (pv 1) pe_int) (pa_cons pe_int pa_nil))) (pa_cons (pe_tup (pa_cons pe_int (pa_cons pe_int pa_nil))) (pa_cons (pe_tup (pa_cons (pe_op op_sub (pv 1) pe_int) (pa_cons pe_int pa_nil))) (pa_cons (pe_tup (pa_cons pe_int (pa_cons pe_int pa_nil))) pa_nil)))))))) pss_nil)
      (pss_cons (ps_if (pt_cmpR op_eq (pe_op op_mod (pv 2) pe_int) pe_int (nomark _)) (pss_one (ps_ret (pe_lc (own := [("_law_k", 5)]) (g := gName 5) rfl sc_l_lying.nd (pi_range2 rfl T.u_range (pa_cons pe_int (pa_cons (pv 1) pa_nil))) (blkOk_by (own := [("_law_k", 5)]) (N := n_l_lying) (sc := defScope s_l_lying) (by decide +kernel))
        (fun _ _ _ _ _ => (pg_name (i := 5) sc_l_lying.nd rfl (Or.inl rfl))) (fun _ _ _ _ _ => pts_nil) (fun _ _ _ _ _ => (pe_tup (pa_cons (pv 5) (pa_cons (pe_op op_mod (pe_op op_add (pv 5) (pv 3)) pe_int) pa_nil))))))) pss_nil)
      (pss_cons (ps_if (pt_cmpR (r := rIn K false) (by exact op_in_seq) (pe_op op_mod (pv 2) pe_int) (pe_tup (pa_cons pe_int (pa_cons pe_int pa_nil))) (by rfl)) (pss_one (ps_ret (pe_lst (pa_cons (pe_tup (pa_cons (pe_op op_mod (pv 3) (pv 1)) (pa_cons pe_int pa_nil))) (pa_cons (pe_tup (pa_cons (pe_op op_mod (pe_op op_add (pe_op op_mul (pv 3) pe_int) pe_int) (pv 1)) (pa_cons pe_int pa_nil))) pa_nil))))) pss_nil)
      (pss_cons (ps_if (PW.pt (pw_or (pt_cmpR op_eq (pe_op op_mod (pv 2) pe_int) pe_int (nomark _)) (pw_or1 (pt_cmpR op_eq (pe_op op_mod (pv 2) pe_int) pe_int (nomark _))))) (pss_one (ps_ret (pe_lc (own := [("_law_k", 5)]) (g := gName 5) rfl sc_l_lying.nd (pi_range1 rfl T.u_range (pa_cons (pe_op op_add pe_int (pe_op op_mod (pv 3) pe_int)) pa_nil)) (blkOk_by (own := [("_law_k", 5)]) (N := n_l_lying) (sc := defScope s_l_lying) (by decide +kernel))
        (fun _ _ _ _ _ => (pg_name (i := 5) sc_l_lying.nd rfl (Or.inl rfl))) (fun _ _ _ _ _ => pts_nil) (fun _ _ _ _ _ => (pe_tup (pa_cons (pe_op op_mod (pe_op op_add (pe_op op_mul (pv 5) (pv 5)) (pv 3)) (pv 1)) (pa_cons (pe_op op_mod (pe_op op_mul (pv 5) pe_int) pe_int) pa_nil))))))) pss_nil)
      (pss_cons (ps_set (i := 4) sc_l_lying.nd rfl (.inl rfl) (pe_lst pa_nil))
      (pss_cons (ps_if (pt_cmpR op_eq (pe_op op_mod (pv 2) pe_int) pe_int (nomark _)) (pss_one (ps_setLc (i := 4) (own := [("_law_k", 5)]) (g := gName 5) rfl sc_l_lying.nd rfl rfl (sw_true rfl rfl rfl (by decide +kernel)) (pi_range2 rfl T.u_range (pa_cons pe_int (pa_cons (pv 1) pa_nil))) (blkOk_by (own := [("_law_k", 5)]) (N := n_l_lying) (sc := defScope s_l_lying) (by decide +kernel))
        (fun _ _ _ _ _ => (pg_name (i := 5) sc_l_lying.nd rfl (Or.inl rfl))) (fun _ _ _ _ _ => pts_nil) (fun _ _ _ _ _ => (pe_tup (pa_cons (pv 5) (pa_cons (pe_op op_sub (pv 5) pe_int) pa_nil)))))) pss_nil)
      (pss_cons (ps_for PassesOwn.never rfl (pi_range3 rfl T.u_range (pa_cons pe_int (pa_cons (pe_callB (call_min2 rfl) (by rfl) T.u_min (by decide +kernel) (pa_cons (pe_callB call_len_seq (by rfl) T.u_len (by decide +kernel) (pa_cons (pv 0) pa_nil)) (pa_cons pe_int pa_nil))) (pa_cons pe_int pa_nil)))) (pg_name (i := 5) sc_l_lying.nd rfl (Or.inl rfl))
        (pss_one (ps_expr (pe_bm PySem.F.plainAttrs_list PySem.F.slot_list_append PySem.F.type_list_append mt_append (pv 4) (pa_cons (pe_tup (pa_cons (pe_op op_mod (pe_callS (E := fun _ => E0) (ok_l_mix T) (hr.mono (by decide)) rfl T.g_l_mix T.f_l_mix.kp (b_l_mix T) (fun σ => pass0S) (pa_cons (pe_ix (r := rIxL K) (by exact ix_list) (pv 0) (pv 5) (fun _ _ => rfl)) (pa_cons pe_int pa_nil))) (pv 1)) (pa_cons (pe_op op_mod (pe_callS (E := fun _ => E0) (ok_l_mix T) (hr.mono (by decide)) rfl T.g_l_mix T.f_l_mix.kp (b_l_mix T) (fun σ => pass0S) (pa_cons (pe_ix (r := rIxL K) (by exact ix_list) (pv 0) (pv 5) (fun _ _ => rfl)) (pa_cons pe_int pa_nil))) pe_int) pa_nil))) pa_nil)))))
      (pss_one (ps_ret (pv 4))))))))))))), ?_⟩
  refine Pf.runN (X := fun _ _ _ _ => False) (P := P_lying [.list (ns.map .int), .int n]) sm dv rfl ?_ (fun oc ⟨xs, r, e⟩ => by subst e; exact fun p ws G H2 fr w1 w2 w3 w4 => q xs r p ws G H2 fr (w1.elim False.elim id) w2 w3 w4)
  refine sn_seq1 (sx_set (ev_call (ea_cons (ev_var rfl) (ea_cons (ev_c rfl) ea_nil)) ⟨ns, 0, by decide, rfl, rfl⟩)) ?_
  generalize cellAt ns 0 = f at hn
  obtain ⟨⟨hn1, hn60⟩, h68, h10, h5, h3⟩ := hn
  have n0 : 0 < n := by omega
  refine sn_seq1 (sx_set (d := .int (cellAt ns 1 / 60)) (ev_I (ev_call (ea_cons (ev_var rfl) (ea_cons (ev_c rfl) ea_nil)) ⟨ns, 1, by decide, rfl, rfl⟩) (ev_c rfl) ⟨by decide, by decide⟩ rfl)) ?_
  generalize cellAt ns 1 / 60 = u
  have eq : ∀ c : Int, EvT K (tTest (tOp rEq (tOp (rI (fun _ j => 0 < j) fun i j => V.int (i % j)) (tVar 2) (tC (.int 12))) (tC (.int c)))) [.dat (.list (ns.map .int)), .dat (.int n), .dat (.int f), .dat (.int u), .no, .no] (decide (f % 12 = c)) := fun c => by
    walk_at "ev"; decide
  have eq6 : ∀ {e : SV} (c : Int), EvT K (tTest (tOp rEq (tOp (rI (fun _ j => 0 < j) fun i j => V.int (i % j)) (tVar 2) (tC (.int 6))) (tC (.int c)))) [.dat (.list (ns.map .int)), .dat (.int n), .dat (.int f), .dat (.int u), e, .no] (decide (f % 6 = c)) := fun c => by
    walk_at "ev"; decide
  refine sn_when (eq 4) (fun c => ?_) lying_fin (fun c4 => ?_)
  · refine sn_seq1 (sx_setO (eo_lcR (n := 4) (fun _ => true) (fun k => keyD ((u * (2 * (k : Int) + 1) + k) % n, (k : Int))) (ea_cons (ev_c rfl) ea_nil) (by decide) rfl fun k hk => ⟨_, tgw_name (by decide), et_yes, fun _ => ?_⟩)) ?_
    · refine ev_tup (ea_cons (ev_I (ev_I0 (ev_I (ev_var rfl) (ev_I0 (ev_I (ev_c rfl) (ev_var rfl) (cm0 (by decide)) rfl) (ev_c rfl) rfl) (cm1 (by omega)) rfl) (ev_var rfl) rfl) (ev_var rfl) n0 rfl) (ea_cons (ev_var rfl) ea_nil)) (Nat.le_of_ble_eq_true rfl)
    refine sn_of (sx_retO (eo_cat (el_var rfl) (EvO.l (eo_lcR (n := 60) (fun k => decide ((k : Int) % 2 = 1)) (fun k => keyD (((k : Int) + u) % n, 4)) (ea_cons (ev_c rfl) ea_nil) (by decide) rfl fun k hk => ⟨_, tgw_name (by decide), ?_, fun _ => ?_⟩)) ?_)) ⟨_, ⟨n, ((List.range 4).filter fun _ => true).map (fun (k : Nat) => (((u * (2 * (k : Int) + 1) + k) % n, (k : Int)) : Key2)) ++ ((List.range 60).filter fun (k : Nat) => decide ((k : Int) % 2 = 1)).map (fun (k : Nat) => ((((k : Int) + u) % n, 4) : Key2)), rfl, ⟨?_, fun x hx => ?_⟩, ?_⟩, rfl⟩
    · walk_at "ev"; decide
    · refine ev_tup (ea_cons (ev_I (ev_I0 (ev_var rfl) (ev_var rfl) rfl) (ev_var rfl) n0 rfl) (ea_cons (ev_c rfl) ea_nil)) (Nat.le_of_ble_eq_true rfl)
    · rw [List.length_map, List.length_map]
      have h1 := List.length_filter_le (fun _ : Nat => true) (List.range 4)
      have h2 := List.length_filter_le (fun (k : Nat) => decide ((k : Int) % 2 = 1)) (List.range 60)
      rw [List.length_range] at h1 h2
      omega
    · rw [List.length_append, List.length_map, List.length_map]
      decide
    · rcases List.mem_append.mp hx with h | h
      · obtain ⟨k, hk, rfl⟩ := List.mem_map.mp h
        have := List.mem_range.mp (List.mem_filter.mp hk).1
        exact ⟨room_mod n0, by show 0 ≤ (k : Int); omega, by show (k : Int) < 5; omega⟩
      · obtain ⟨k, hk, rfl⟩ := List.mem_map.mp h
        exact ⟨room_mod n0, by show (0 : Int) ≤ 4; decide, by show (4 : Int) < 5; decide⟩
    · rw [List.map_append, List.map_map, List.map_map]; rfl
  refine sn_when (eq 10) (fun c => ?_) lying_fin (fun c10 => ?_)
  · have hn20 := h10 (of_decide_eq_true c)
    refine sn_of (sx_retO (eo_lst (ds := [keyD (2, 0), keyD (n - 3, 1), keyD (1, 2), keyD (n - 2, 3), keyD (0, 4)]) ?_ (Nat.le_of_ble_eq_true rfl))) ⟨_, ⟨n, [(2, 0), (n - 3, 1), (1, 2), (n - 2, 3), (0, 4)], rfl, ⟨by show 5 ≤ 60; decide, fun x hx => ?_⟩, rfl⟩, rfl⟩
    · exact ea_cons (ev_tup (ea_cons (ev_c rfl) (ea_cons (ev_c rfl) ea_nil)) (Nat.le_of_ble_eq_true rfl)) (ea_cons (ev_tup (ea_cons (ev_I0 (ev_var rfl) (ev_c rfl) rfl) (ea_cons (ev_c rfl) ea_nil)) (Nat.le_of_ble_eq_true rfl)) (ea_cons (ev_tup (ea_cons (ev_c rfl) (ea_cons (ev_c rfl) ea_nil)) (Nat.le_of_ble_eq_true rfl)) (ea_cons (ev_tup (ea_cons (ev_I0 (ev_var rfl) (ev_c rfl) rfl) (ea_cons (ev_c rfl) ea_nil)) (Nat.le_of_ble_eq_true rfl)) (ea_cons (ev_tup (ea_cons (ev_c rfl) (ea_cons (ev_c rfl) ea_nil)) (Nat.le_of_ble_eq_true rfl)) ea_nil))))
    · simp only [List.mem_cons, List.not_mem_nil, or_false] at hx
      unfold okKey inRoom
      rcases hx with rfl | rfl | rfl | rfl | rfl <;> (dsimp only; omega)
  refine sn_when (eq 7) (fun c => ?_) lying_fin (fun c7 => ?_)
  · refine lying_by (n := n) rfl (g := fun k => (1 + (k : Int), (1 + (k : Int) + u) % 5)) (p := fun _ => true) (m := (n - 1).toNat) (by omega) (eo_lcR2 (lo := 1) (k := n) _ _ (ea_cons (ev_c rfl) (ea_cons (ev_var rfl) ea_nil)) (by omega) (by decide) rfl (by omega) fun k hk => ⟨_, tgw_name (by decide), et_yes, fun _ => ?_⟩) fun k hk => ⟨⟨by show 0 ≤ 1 + (k : Int); omega, by show 1 + (k : Int) < n; omega⟩, by show 0 ≤ (1 + (k : Int) + u) % 5; omega, by show (1 + (k : Int) + u) % 5 < 5; omega⟩
    exact ev_tup (ea_cons (ev_var rfl) (ea_cons (ev_I (ev_I0 (ev_var rfl) (ev_var rfl) rfl) (ev_c rfl) (by decide) rfl) ea_nil)) (Nat.le_of_ble_eq_true rfl)
  refine sn_when (b := decide (f % 12 = 6 ∨ f % 12 = 8)) (EvT.is (b := [PyData.int 6, .int 8].any fun z => eqF z (.int (f % 12))) (by walk_at "ev"; decide) (any2 _ _ _)) (fun c => ?_) lying_fin (fun c68 => ?_)
  · refine sn_of (sx_retO (eo_lst (ds := [keyD (u % n, 0), keyD ((u * 7 + 5) % n, 0)]) ?_ (Nat.le_of_ble_eq_true rfl))) ⟨_, ⟨n, [(u % n, 0), ((u * 7 + 5) % n, 0)], rfl, ⟨by show 2 ≤ 60; decide, fun x hx => ?_⟩, rfl⟩, rfl⟩
    · exact ea_cons (ev_tup (ea_cons (ev_I (ev_var rfl) (ev_var rfl) n0 rfl) (ea_cons (ev_c rfl) ea_nil)) (Nat.le_of_ble_eq_true rfl)) (ea_cons (ev_tup (ea_cons (ev_I (ev_I0 (ev_I (ev_var rfl) (ev_c rfl) (cm1 (by decide)) rfl) (ev_c rfl) rfl) (ev_var rfl) n0 rfl) (ea_cons (ev_c rfl) ea_nil)) (Nat.le_of_ble_eq_true rfl)) ea_nil)
    · simp only [List.mem_cons, List.not_mem_nil, or_false] at hx
      rcases hx with rfl | rfl <;> exact ⟨room_mod n0, by show (0 : Int) ≤ 0; decide, by show (0 : Int) < 5; decide⟩
  apply sn_when
  · exact et_or (eq 5) fun _ => eq 9
  · intro _
    refine lying_by (n := n) rfl (g := fun k => (((k : Int) * k + u) % n, (k : Int) * 3 % 5)) (p := fun _ => true) (m := (5 + u % 56).toNat) (by omega) (eo_lcR (k := 5 + u % 56) _ _ (ea_cons ?_ ea_nil) (by omega) rfl fun k hk => ⟨_, tgw_name (by decide), et_yes, fun _ => ?_⟩) fun k hk => ⟨room_mod n0, by show 0 ≤ (k : Int) * 3 % 5; omega, by show (k : Int) * 3 % 5 < 5; omega⟩
    · walk_at "ev"; decide
    · exact ev_tup (ea_cons (ev_I (ev_I0 (ev_I (ev_var rfl) (ev_var rfl) (cm1 (by omega)) rfl) (ev_var rfl) rfl) (ev_var rfl) n0 rfl) (ea_cons (ev_I (ev_I (ev_var rfl) (ev_c rfl) (cm1 (by decide)) rfl) (ev_c rfl) (by decide) rfl) ea_nil)) (Nat.le_of_ble_eq_true rfl)
  · exact lying_fin
  intro c59
  have hne : ¬ f % 12 = 9 := fun z => by rw [decide_eq_true z, Bool.or_true] at c59; cases c59
  refine sn_seq1 (sx_setO (eo_lst ea_nil (by decide))) ?_
  refine sn_ifs (b := decide (f % 6 = 3)) (M := fun e => ∃ L, SomeK n 30 L ∧ e = [.dat (.list (ns.map .int)), .dat (.int n), .dat (.int f), .dat (.int u), .own (L.map keyD), .no]) (eq6 3) (fun c => ?_) (fun _ => sn_of sx_next ⟨_, rfl, [], ⟨Nat.zero_le _, fun _ h => nomatch h⟩, rfl⟩) fun e ⟨L, hL, he⟩ => ?_
  · have hn6 : n ≤ 6 := h3 (by have := of_decide_eq_true c; omega)
    have ok : ∀ k : Nat, k < (n - 1).toNat → okKey n (1 + (k : Int), 1 + (k : Int) - 1) := fun k hk => ⟨⟨by show 0 ≤ 1 + (k : Int); omega, by show 1 + (k : Int) < n; omega⟩, by show 0 ≤ 1 + (k : Int) - 1; omega, by show 1 + (k : Int) - 1 < 5; omega⟩
    refine sn_of (sx_setO (eo_lcR2 (lo := 1) (k := n) (n := (n - 1).toNat) (fun _ => true) (fun k => keyD (1 + (k : Int), 1 + (k : Int) - 1)) (ea_cons (ev_c rfl) (ea_cons (ev_var rfl) ea_nil)) (by omega) (by decide) rfl (by omega) fun k hk => ⟨_, tgw_name (by decide), et_yes, fun _ => ?_⟩)) ⟨_, rfl, ((List.range (n - 1).toNat).filter fun _ => true).map fun (k : Nat) => (1 + (k : Int), 1 + (k : Int) - 1), ⟨Nat.le_trans (SomeK.map (p := fun _ => true) ok).1 (by omega), (SomeK.map ok).2⟩, ?_⟩
    · exact ev_tup (ea_cons (ev_var rfl) (ea_cons (ev_I0 (ev_var rfl) (ev_c rfl) rfl) ea_nil)) (Nat.le_of_ble_eq_true rfl)
    · rw [List.map_map]; rfl
  subst he
  have m0 : 0 ≤ (if (27 : Int) < (ns.length : Int) then 27 else (ns.length : Int)) ∧ (if (27 : Int) < (ns.length : Int) then 27 else (ns.length : Int)) ≤ 27 ∧ (if (27 : Int) < (ns.length : Int) then 27 else (ns.length : Int)) ≤ ns.length := by split <;> omega
  have hlen : Ev K (tCB (fun xs H Q => ∃ i j, xs = [.int i, .int j] ∧ Q (.int (if j < i then j else i)) H) (tCons (tCB (fun xs H Q => ∃ p ys, xs = [.ref p] ∧ (SqL K H p ys ∨ SqT K H p ys) ∧ Q (.int ys.length) H) (tCons (tVar 0) tNil)) (tCons (tC (.int 27)) tNil))) [.dat (.list (ns.map .int)), .dat (.int n), .dat (.int f), .dat (.int u), .own (L.map keyD), .no] (.int (if (27 : Int) < (ns.length : Int) then 27 else (ns.length : Int))) :=
    Ev.is (d := .int (if (27 : Int) < ((ns.map PyData.int).length : Int) then 27 else ((ns.map PyData.int).length : Int))) (ev_min2 (ev_len (ev_var rfl)) (ev_c rfl)) (by rw [List.length_map])
  generalize (if (27 : Int) < (ns.length : Int) then 27 else (ns.length : Int)) = m at m0 hlen
  refine sn_seq (sn_forR3 (lo := 5) (k := m) (c := 3) (ea_cons (ev_c rfl) (ea_cons hlen (ea_cons (ev_c rfl) ea_nil))) (rg5' m0.1 m0.2.1) (fun i e => ∃ L, SomeK n (30 + i) L ∧ e = [.dat (.list (ns.map .int)), .dat (.int n), .dat (.int f), .dat (.int u), .own (L.map keyD), .no]) ⟨L, hL, rfl⟩ fun i e hi ⟨L, hL, he⟩ => ?_) fun e ⟨L, hL, he⟩ => ?_
  · subst he
    refine ⟨_, tg_name, ?_⟩
    have sz : L.length < 100000 := by have := hL.1; omega
    have hix := at_ns (ns := ns) (k := 5 + (i : Int) * 3) (by omega) (by omega)
    generalize ns.getD (5 + (i : Int) * 3).toNat 0 = c at hix
    refine sn_out1 (sx_app (d := keyD (mix c 0 % n, mix c 2 % 5)) rfl (ev_tup (ea_cons (ev_I (ev_call (ea_cons (ev_ixL (ev_var rfl) (ev_var rfl) hix) (ea_cons (ev_c rfl) ea_nil)) ⟨c, 0, rfl, rfl⟩) (ev_var rfl) n0 rfl) (ea_cons (ev_I (ev_call (ea_cons (ev_ixL (ev_var rfl) (ev_var rfl) hix) (ea_cons (ev_c rfl) ea_nil)) ⟨c, 2, rfl, rfl⟩) (ev_c rfl) (by decide) rfl) ea_nil)) (Nat.le_of_ble_eq_true rfl)) (by rw [List.length_map]; exact sz)) ⟨[.dat (.list (ns.map .int)), .dat (.int n), .dat (.int f), .dat (.int u), .own ((L ++ [(mix c 0 % n, mix c 2 % 5)]).map keyD), .no], ?_, _, hL.add ⟨room_mod n0, by show 0 ≤ mix c 2 % 5; omega, by show mix c 2 % 5 < 5; omega⟩, rfl⟩
    rw [mapk_app]; walk_at "less"
  · subst he
    refine sn_of (sx_retV rfl) ⟨_, ⟨n, L, rfl, ⟨?_, hL.2⟩, rfl⟩, rfl⟩
    have := hL.1
    omega

def okMaze (m : Maze) : Prop := okKeys m.ks ∧ m.ds.length ≤ 1000 ∧ ∀ d ∈ m.ds, inRoom m.n d.1 ∧ inRoom m.n d.2.1

/-! opens, far_end, steps -/
def stateD (s : Int × List Int) : PyData := .tuple [.int s.1, handD s.2]
def opensF (l : Option Int) (held : List Int) : Bool := match l with
  | none => true
  | some k => decide (k ∈ held)
def otherF (d : Door) (r : Int) : Int := if d.1 = r then d.2.1 else d.1
theorem optD_flat (l : Option Int) : flatD (optD l) = true := by cases l <;> rfl
theorem opt_any (held : List Int) (l : Option Int) : (isN (optD l) || ((held.map PyData.int).any fun z => eqF z (optD l))) = opensF l held := by
  cases l with
  | none => rfl
  | some k => exact ints_any held k
def R_opens (ds : List PyData) (d : PyData) : Prop := ∃ (x : Door) (held : List Int), ds = [doorD x, handD held] ∧ d = .bool (opensF x.2.2 held)
theorem ok_opens (T : Txt K mg A) : FnOk P w K mg base CX0 1 A.a_opens A.d_opens ["door", "held"] (spG K R_opens) := by
  refine T.f_opens.ok sc_opens (fun vs H Q E h => ?_) (fun cdv Ar outer s H vs Q E hr h => ?_)
  · obtain ⟨H0, ds, d, sm, dv, ⟨x, held, rfl, _⟩, _⟩ := h; exact dpa_len dv
  obtain ⟨H0, ds, d, sm, dv, ⟨x, held, rfl, rfl⟩, q⟩ := h
  refine ⟨_, (pss_cons (ps_set (i := 2) sc_opens.nd rfl (.inl rfl) (pe_ix (r := rIxT K) (by exact ix_tup) (pv 0) pe_int (fun _ _ => rfl)))
      (pss_one (ps_ret (pe_or (pe_cmpR op_isN (pv 2) pe_non (nomark _)) (pe_one (pe_cmpR (r := rIn K false) (by exact op_in_seq) (pv 2) (pv 1) (by rfl))))))), ?_⟩
  refine Pf.run (X := fun _ _ _ _ => False) (oc := .rt (.bool (opensF x.2.2 held))) sm dv rfl ?_ q
  refine sx_seq (sx_set (ev_ixT (ds := [.int x.1, .int x.2.1, optD x.2.2]) (ev_var rfl) (ev_c rfl) rfl)) ?_
  exact sx_ret ((ev_orV (ev_isN (ev_var rfl)) fun _ => ev_inT (ds := held.map .int) (ev_var rfl) (ev_var rfl) (optD_flat _) (ints_flat _)).is (by rw [opt_any]))

def R_far_end (ds : List PyData) (d : PyData) : Prop := ∃ (x : Door) (r : Int), ds = [doorD x, .int r] ∧ d = .int (otherF x r)
theorem ok_far_end (T : Txt K mg A) : FnOk P w K mg base CX0 1 A.a_far_end A.d_far_end ["door", "room"] (spG K R_far_end) := by
  refine T.f_far_end.ok sc_far_end (fun vs H Q E h => ?_) (fun cdv Ar outer s H vs Q E hr h => ?_)
  · obtain ⟨H0, ds, d, sm, dv, ⟨x, r, rfl, _⟩, _⟩ := h; exact dpa_len dv
  obtain ⟨H0, ds, d, sm, dv, ⟨x, r, rfl, rfl⟩, q⟩ := h
  refine ⟨_, (pss_cons (ps_asg (pv 0) (pg_tup rfl (pgs_cons (pg_name (i := 2) sc_far_end.nd rfl (Or.inl rfl)) (pgs_cons (pg_name (i := 3) sc_far_end.nd rfl (Or.inl rfl)) (pgs_cons (pg_name (i := 4) sc_far_end.nd rfl (Or.inl rfl)) pgs_nil)))))
      (pss_one (ps_ret (pe_ifExp (pt_cmpR op_eq (pv 2) (pv 1) (nomark _)) (pv 3) (pv 2))))), ?_⟩
  refine Pf.run (X := fun _ _ _ _ => False) (oc := .rt (.int (otherF x r))) sm dv rfl ?_ q
  refine sx_seq (sx_asg (d := .tuple [.int x.1, .int x.2.1, optD x.2.2]) (ev_var rfl) (tg_tup (tgs_cons tg_name (tgs_cons tg_name (tgs_cons tg_name tgs_nil))) rfl)) ?_
  refine sx_ret (ev_if (b := decide (x.1 = r)) (et_test (ev_eqI (ev_var rfl) (ev_var rfl))) (fun c => (ev_var (d := .int x.2.1) rfl).is ?_) fun c => (ev_var (d := .int x.1) rfl).is ?_)
  · unfold otherF; rw [if_pos (of_decide_eq_true c)]
  · unfold otherF; rw [if_neg (of_decide_eq_false c)]
def viaF (r : Int) (held : List Int) (d : Door) : Bool := decide (r = d.1 ∨ r = d.2.1) && opensF d.2.2 held
def toF (ks : List Key2) (r : Int) (held : List Int) (d : Door) : Int × List Int := (otherF d r, taken ks (otherF d r) held)
def stepsF (m : Maze) (r : Int) (held : List Int) : List (Int × List Int) := (m.ds.filter (viaF r held)).map (toF m.ks r held)
def R_steps (ds : List PyData) (xs : List PyData) : Prop := ∃ (m : Maze) (r : Int) (held : List Int), (okMaze m ∧ held.length ≤ 50 ∧ inRoom m.n r) ∧ ds = [mazeD m, .int r, handD held] ∧ xs = (stepsF m r held).map stateD
def B_steps (A : Ad) (ds : List PyData) (c : Value) : Prop := ∃ (m : Maze) (r : Int) (held : List Int), ¬ inRoom m.n r ∧ ds = [mazeD m, .int r, handD held] ∧ c = .ref A.c_NoRoom
theorem ok_steps (T : Txt K mg A) : FnOk P w K mg base (L2.CX P w) 4 A.a_steps A.d_steps ["maze", "room", "held"] (spXL K R_steps (B_steps A)) := by
  refine T.f_steps.okX sc_steps (fun vs H Q E h => ?_) (fun cdv Ar outer s H vs Q E hr h => ?_)
  · obtain ⟨H0, ds, sm, dv, ⟨d, ⟨m, r, held, _, rfl, _⟩, _⟩ | ⟨c, ⟨m, r, held, _, rfl, _⟩, _⟩⟩ := h <;> exact dpa_len dv
  obtain ⟨H0, ds, sm, dv, hh⟩ := h
  refine ⟨_, (pss_cons (ps_asg (pv 0) (pg_tup rfl (pgs_cons (pg_name (i := 3) sc_steps.nd rfl (Or.inl rfl)) (pgs_cons (pg_name (i := 4) sc_steps.nd rfl (Or.inl rfl)) (pgs_cons (pg_name (i := 5) sc_steps.nd rfl (Or.inl rfl)) pgs_nil)))))
      (pss_cons (ps_expr (pe_callS (ok_need_room T) (hr.mono (by decide)) rfl T.g_need_room T.f_need_room.kp (b_need_room T) (fun σ => passAt (takes_of rfl rfl rfl rfl) σ) (pa_cons (pv 3) (pa_cons (pv 1) pa_nil))))
      (pss_cons (ps_set (i := 6) sc_steps.nd rfl (.inl rfl) (pe_lst pa_nil))
      (pss_cons (ps_for (passes_of rfl) rfl (pi_list (pv 4)) (pg_name (i := 7) sc_steps.nd rfl (Or.inl rfl))
        (pss_one (ps_if (PW.pt (pw_and (pt_cmpR (r := rIn K false) (by exact op_in_seq) (pv 1) (pe_tup (pa_cons (pe_ix (r := rIxT K) (by exact ix_tup) (pv 7) pe_int (fun _ _ => rfl)) (pa_cons (pe_ix (r := rIxT K) (by exact ix_tup) (pv 7) pe_int (fun _ _ => rfl)) pa_nil))) (by rfl)) (pw_and1 (pt_val (pe_callS (E := fun _ => E0) (ok_opens T) (hr.mono (by decide)) rfl T.g_opens T.f_opens.kp (b_opens T) (fun σ => pass0S) (pa_cons (pv 7) (pa_cons (pv 2) pa_nil))))))) (pss_cons (ps_set (i := 8) sc_steps.nd rfl (.inl rfl) (pe_callS (E := fun _ => E0) (ok_far_end T) (hr.mono (by decide)) rfl T.g_far_end T.f_far_end.kp (b_far_end T) (fun σ => pass0S) (pa_cons (pv 7) (pa_cons (pv 1) pa_nil))))
      (pss_one (ps_expr (pe_bm PySem.F.plainAttrs_list PySem.F.slot_list_append PySem.F.type_list_append mt_append (pv 6) (pa_cons (pe_tup (pa_cons (pv 8) (pa_cons (pe_callS (ok_taken T) (hr.mono (by decide)) rfl T.g_taken T.f_taken.kp (b_taken T) (fun σ => passAt (takes_of rfl rfl rfl rfl) σ) (pa_cons (pv 0) (pa_cons (pv 8) (pa_cons (pv 2) pa_nil)))) pa_nil))) pa_nil))))) pss_nil)))
      (pss_one (ps_ret (pv 6))))))), ?_⟩
  rcases hh with ⟨xs, ⟨m, r, held, ⟨⟨hk, hd, hdo⟩, hh, hr0⟩, rfl, rfl⟩, q⟩ | ⟨c, ⟨m, r, held, hr0, rfl, rfl⟩, q⟩
  · refine Pf.run (X := fun cls d _ H => E cls d H) (oc := .rl ((stepsF m r held).map stateD)) sm dv rfl ?_ (fun p ws G H2 fr w1 w2 w3 w4 => q p ws G H2 fr (w1.elim False.elim id) w2 w3 w4)
    refine sx_seq (sx_asg (ev_var rfl) tg_maze) ?_
    refine sx_seq (sx_drop (ev_callX (ea_cons (ev_var rfl) (ea_cons (ev_var rfl) ea_nil)) ⟨m.n, r, hr0, rfl, rfl⟩)) ?_
    refine sx_seq (sx_setO (eo_lst ea_nil (by decide))) ?_
    refine sx_seq (sx_for (ds := m.ds.map doorD) (ev_var rfl) (fun i => [.dat (mazeD m), .dat (.int r), .dat (handD held), .dat (.int m.n), .dat (.list (m.ds.map doorD)), .dat (.list (m.ks.map keyD)), .own ((((m.ds.take i).filter (viaF r held)).map (toF m.ks r held)).map stateD), .no, .no]) rfl fun i d hi => ?_) ?_
    · rw [List.getElem?_map] at hi
      cases ei : m.ds[i]? with
      | none => rw [ei] at hi; cases hi
      | some x =>
        rw [ei] at hi
        obtain rfl := Option.some.inj hi
        refine ⟨_, tg_name, ?_⟩
        try dsimp only
        rw [take_nxt ei, List.map_append]
        have sz : ((((m.ds.take i).filter (viaF r held)).map (toF m.ks r held)).map stateD).length < 100000 := by
          rw [List.length_map, List.length_map]
          have := List.length_filter_le (viaF r held) (m.ds.take i)
          rw [List.length_take] at this
          omega
        generalize ((m.ds.take i).filter (viaF r held)).map (toF m.ks r held) = Z at sz
        have hx := hdo x (List.mem_of_getElem? ei)
        have ho : inRoom m.n (otherF x r) := by unfold otherF; (split <;> first | exact hx.2 | exact hx.1)
        refine .inl (sx_if (b := viaF r held x) (et_and ((et_test (ev_inT (ds := [.int x.1, .int x.2.1]) (ev_var rfl) (ev_tup (ea_cons (ev_ixT (ds := [.int x.1, .int x.2.1, optD x.2.2]) (ev_var rfl) (ev_c rfl) rfl) (ea_cons (ev_ixT (ds := [.int x.1, .int x.2.1, optD x.2.2]) (ev_var rfl) (ev_c rfl) rfl) ea_nil)) (Nat.le_of_ble_eq_true rfl)) rfl rfl)).is (any2 _ _ _)) fun _ => et_B (ev_call (ea_cons (ev_var rfl) (ea_cons (ev_var rfl) ea_nil)) ⟨x, held, rfl, rfl⟩)) (fun c => ?_) fun c => ?_)
        · rw [if_pos c]
          refine sx_seq (sx_set (ev_call (ea_cons (ev_var rfl) (ea_cons (ev_var rfl) ea_nil)) ⟨x, r, rfl, rfl⟩)) ?_
          refine nx_less (sx_app (d := stateD (toF m.ks r held x)) rfl (ev_tup (ea_cons (ev_var rfl) (ea_cons (ev_callX (ea_cons (ev_var rfl) (ea_cons (ev_var rfl) (ea_cons (ev_var rfl) ea_nil))) ⟨m, otherF x r, held, ⟨hk, hh, ho⟩, rfl, rfl⟩) ea_nil)) (Nat.le_of_ble_eq_true rfl)) sz) (by walk_at "less")
        · rw [if_neg (by rw [c]; decide), List.map_nil, List.append_nil]
          exact nx_less sx_next (by walk_at "less")
    · rw [List.length_map, List.take_length]
      exact sx_retV rfl
  · refine Pf.run (X := fun cls d _ H => E cls d H) (oc := .ex (.ref A.c_NoRoom) [.dat (mazeD m), .dat (.int r), .dat (handD held), .dat (.int m.n), .dat (.list (m.ds.map doorD)), .dat (.list (m.ks.map keyD)), .no, .no, .no]) sm dv rfl ?_ (fun σ G H2 f _ _ => q G H2 f)
    refine sx_seq (sx_asg (ev_var rfl) tg_maze) ?_
    exact sx_end (sx_outD (evx_call (ea_cons (ev_var rfl) (ea_cons (ev_var rfl) ea_nil)) ⟨m.n, r, hr0, rfl, rfl⟩)) rfl

/-! keys as data -/
theorem sh_key {k : Key2} : Sh 1 (keyD k) := sh2 sh_int sh_int
theorem key_inj {a b : Key2} : a = b ↔ keyD a = keyD b := ⟨congrArg keyD, fun h => by
  obtain ⟨a1, a2⟩ := a
  obtain ⟨b1, b2⟩ := b
  injection h with h
  injection h with h1 h2
  injection h2 with h2 _
  injection h1 with h1
  injection h2 with h2
  exact Prod.ext h1 h2⟩
theorem keys_any (ks : List Key2) (k : Key2) : ((ks.map keyD).any fun z => PyData.eqv z (keyD k)) = decide (k ∈ ks) := by
  rw [Bool.eq_iff_iff, List.any_eq_true, decide_eq_true_eq]
  constructor
  · rintro ⟨z, hz, h⟩
    obtain ⟨x, hx, rfl⟩ := List.mem_map.mp hz
    rw [eqv_dec sh_key sh_key key_inj, decide_eq_true_eq] at h
    rw [← h]; exact hx
  · intro h
    exact ⟨keyD k, List.mem_map.mpr ⟨k, h, rfl⟩, by rw [eqv_dec sh_key sh_key key_inj]; exact decide_eq_true rfl⟩
theorem sh_keys (ks : List Key2) : Sh 2 (.list (ks.map keyD)) := sh_lst (sh_map fun _ _ => sh_key)

/-! the law's own taken -/
def okHeld (held : List Int) : Prop := held.length ≤ 50 ∧ ∀ x ∈ held, 0 ≤ x ∧ x < 5
theorem taken_kind {ks : List Key2} (h : okKeys ks) {held : List Int} (hh : okHeld held) {r : Int} : ∀ x ∈ taken ks r held, 0 ≤ x ∧ x < 5 := fun x hx => by
  unfold taken at hx
  rcases List.mem_append.mp (rise_mem.mp hx) with z | z
  · exact hh.2 x z
  · exact keysIn_kind h x z
theorem taken_ok {ks : List Key2} (h : okKeys ks) {held : List Int} (hh : okHeld held) {r : Int} : okHeld (taken ks r held) := by
  refine ⟨?_, taken_kind h hh⟩
  have := up_short (rise_up (held ++ keysIn ks r)) (a := 0) (b := 5) (taken_kind h hh (r := r))
  rw [if_pos (by decide)] at this
  show (rise (held ++ keysIn ks r)).length ≤ 50
  omega
theorem five_is {p : Int → Bool} {L : List Int} (h : L.Pairwise (· < ·)) (hL : ∀ x, x ∈ L ↔ (0 ≤ x ∧ x < 5) ∧ p x = true) : ((List.range 5).filter fun (k : Nat) => p (k : Int)).map (fun (k : Nat) => (k : Int)) = L := by
  refine rising_one ?_ h fun x => ?_
  · refine List.Pairwise.map _ (R := (· < ·)) (fun a b h => by exact_mod_cast h) ?_
    exact List.Pairwise.filter _ List.pairwise_lt_range
  · rw [hL, List.mem_map]
    constructor
    · rintro ⟨k, hk, rfl⟩
      obtain ⟨h1, h2⟩ := List.mem_filter.mp hk
      have := List.mem_range.mp h1
      exact ⟨⟨by omega, by omega⟩, h2⟩
    · rintro ⟨⟨h1, h2⟩, h3⟩
      refine ⟨x.toNat, List.mem_filter.mpr ⟨List.mem_range.mpr (by omega), ?_⟩, by omega⟩
      have : (x.toNat : Int) = x := by omega
      rw [this]; exact h3
def R_ltaken (ds : List PyData) (d : PyData) : Prop := ∃ (ks : List Key2) (r : Int) (held : List Int), (okKeys ks ∧ okHeld held) ∧ ds = [.list (ks.map keyD), .int r, handD held] ∧ d = handD (taken ks r held)
theorem ok_l_taken (T : Txt K mg A) : FnOk P w K mg base CX0 1 A.a_l_taken A.d_l_taken ["_law_lying_here", "_law_room", "_law_held"] (spG K R_ltaken) := by
  refine T.f_l_taken.ok sc_l_taken (fun vs H Q E h => ?_) (fun cdv Ar outer s H vs Q E hr h => ?_)
  · obtain ⟨H0, ds, d, sm, dv, ⟨ks, r, held, _, rfl, _⟩, _⟩ := h; exact dpa_len dv
  obtain ⟨H0, ds, d, sm, dv, ⟨ks, r, held, ⟨hk, hh⟩, rfl, rfl⟩, q⟩ := h
  refine ⟨_, (pss_cons (ps_setLc (i := 3) (own := [("_law_kind", 4)]) (g := gName 4) rfl sc_l_taken.nd rfl rfl (sw_true rfl rfl rfl (by decide +kernel)) (pi_range1 rfl T.u_range (pa_cons pe_int pa_nil)) (blkOk_by (own := [("_law_kind", 4)]) (N := n_l_taken) (sc := defScope s_l_taken) (by decide +kernel))
        (fun _ _ _ _ _ => (pg_name (i := 4) sc_l_taken.nd rfl (Or.inl rfl))) (fun _ _ _ _ _ => (pts_one (PW.pt (pw_or (pt_cmpR (r := rIn K false) (by exact op_in_seq) (pv 4) (pv 2) (by rfl)) (pw_or1 (pt_cmpR (r := rInD K) (by exact (op_inD (u65 hr))) (pe_tup (pa_cons (pv 1) (pa_cons (pv 4) pa_nil))) (pv 0) (by rfl))))))) (fun _ _ _ _ _ => (pv 4)))
      (pss_one (ps_ret (pe_callTy call_tuple_of (by rfl) T.u_tuple (by decide +kernel) (pa_cons (pv 3) pa_nil))))), ?_⟩
  refine Pf.run (X := fun _ _ _ _ => False) (oc := .rt (handD (taken ks r held))) sm dv rfl ?_ q
  refine sx_seq (sx_setO (eo_lcR (n := 5) (fun (k : Nat) => (decide ((k : Int) ∈ held) || decide ((r, (k : Int)) ∈ ks))) (fun (k : Nat) => .int (k : Int)) (ea_cons (ev_c rfl) ea_nil) (by decide) rfl fun k hk => ⟨_, tgw_name (by decide), ?_, fun _ => ev_var rfl⟩)) ?_
  · refine et_or ((et_test (ev_inT (ds := held.map .int) (ev_var rfl) (ev_var rfl) rfl (ints_flat _))).is (ints_any _ _)) fun _ => (et_test (ev_inD (d := keyD (r, (k : Int))) (ev_tup (ea_cons (ev_var rfl) (ea_cons (ev_var rfl) ea_nil)) (Nat.le_of_ble_eq_true rfl)) (ev_var rfl) (sh_key.shaped (by decide)) ((sh_keys ks).shaped (by decide)))).is (keys_any _ _)
  · refine sx_ret ((ev_tuple (el_var rfl)).is ?_)
    have e := five_is (p := fun x => decide (x ∈ held) || decide ((r, x) ∈ ks)) (L := taken ks r held) (rise_up _) fun x => by
      unfold taken
      rw [rise_mem, List.mem_append, Bool.or_eq_true, decide_eq_true_eq, decide_eq_true_eq]
      unfold keysIn
      rw [rise_mem, List.mem_map]
      constructor
      · rintro (h | ⟨⟨r', k'⟩, h1, rfl⟩)
        · exact ⟨hh.2 x h, .inl h⟩
        · obtain ⟨h2, h3⟩ := List.mem_filter.mp h1
          obtain rfl : r' = r := of_decide_eq_true h3
          exact ⟨hk.2 _ h2, .inr h2⟩
      · rintro ⟨_, h | h⟩
        · exact .inl h
        · exact .inr ⟨(r, x), List.mem_filter.mpr ⟨h, decide_eq_true rfl⟩, rfl⟩
    rw [← e]
    unfold handD
    rw [List.map_map]; rfl

def R_lsteps (ds : List PyData) (d : List PyData) : Prop := ∃ (m : Maze) (r : Int) (held : List Int), (okMaze m ∧ okHeld held) ∧ ds = [.list (m.ds.map doorD), .list (m.ks.map keyD), .int r, handD held] ∧ d = (stepsF m r held).map stateD
theorem ok_l_steps (T : Txt K mg A) : FnOk P w K mg base CX0 2 A.a_l_steps A.d_l_steps ["_law_doors_here", "_law_lying_here", "_law_room", "_law_held"] (spL K R_lsteps) := by
  refine T.f_l_steps.ok sc_l_steps (fun vs H Q E h => ?_) (fun cdv Ar outer s H vs Q E hr h => ?_)
  · obtain ⟨H0, ds, d, sm, dv, ⟨m, r, held, _, rfl, _⟩, _⟩ := h; exact dpa_len dv
  obtain ⟨H0, ds, d, sm, dv, ⟨m, r, held, ⟨⟨hk, hd, hdo⟩, hh⟩, rfl, rfl⟩, q⟩ := h
  refine ⟨_, (pss_cons (ps_set (i := 4) sc_l_steps.nd rfl (.inl rfl) (pe_lst pa_nil))
      (pss_cons (ps_for PassesOwn.never rfl (pi_list (pv 0)) (pg_tup rfl (pgs_cons (pg_name (i := 5) sc_l_steps.nd rfl (Or.inl rfl)) (pgs_cons (pg_name (i := 6) sc_l_steps.nd rfl (Or.inl rfl)) (pgs_cons (pg_name (i := 7) sc_l_steps.nd rfl (Or.inl rfl)) pgs_nil))))
        (pss_one (ps_if (PW.pt (pw_or (pt_cmpR op_isN (pv 7) pe_non (nomark _)) (pw_or1 (pt_cmpR (r := rIn K false) (by exact op_in_seq) (pv 7) (pv 3) (by rfl))))) (pss_one (ps_if (pt_cmpR op_eq (pv 5) (pv 2) (nomark _)) (pss_one (ps_expr (pe_bm PySem.F.plainAttrs_list PySem.F.slot_list_append PySem.F.type_list_append mt_append (pv 4) (pa_cons (pe_tup (pa_cons (pv 6) (pa_cons (pe_callS (E := fun _ => E0) (ok_l_taken T) (hr.mono (by decide)) rfl T.g_l_taken T.f_l_taken.kp (b_l_taken T) (fun σ => pass0S) (pa_cons (pv 1) (pa_cons (pv 6) (pa_cons (pv 3) pa_nil)))) pa_nil))) pa_nil)))) (pss_one (ps_if (pt_cmpR op_eq (pv 6) (pv 2) (nomark _)) (pss_one (ps_expr (pe_bm PySem.F.plainAttrs_list PySem.F.slot_list_append PySem.F.type_list_append mt_append (pv 4) (pa_cons (pe_tup (pa_cons (pv 5) (pa_cons (pe_callS (E := fun _ => E0) (ok_l_taken T) (hr.mono (by decide)) rfl T.g_l_taken T.f_l_taken.kp (b_l_taken T) (fun σ => pass0S) (pa_cons (pv 1) (pa_cons (pv 5) (pa_cons (pv 3) pa_nil)))) pa_nil))) pa_nil)))) pss_nil)))) pss_nil)))
      (pss_one (ps_ret (pv 4))))), ?_⟩
  refine Pf.run (X := fun _ _ _ _ => False) (oc := .rl ((stepsF m r held).map stateD)) sm dv rfl ?_ (fun p ws G H2 fr w1 w2 w3 w4 => q p ws G H2 fr (w1.elim False.elim id) w2 w3 w4)
  refine sx_seq (sx_setO (eo_lst ea_nil (by decide))) ?_
  refine sx_seq (sx_for (ds := m.ds.map doorD) (ev_var rfl) (fun i => [.dat (.list (m.ds.map doorD)), .dat (.list (m.ks.map keyD)), .dat (.int r), .dat (handD held), .own ((((m.ds.take i).filter (viaF r held)).map (toF m.ks r held)).map stateD), .no, .no, .no]) rfl fun i d hi => ?_) ?_
  · rw [List.getElem?_map] at hi
    cases ei : m.ds[i]? with
    | none => rw [ei] at hi; cases hi
    | some x =>
      rw [ei] at hi
      obtain rfl := Option.some.inj hi
      refine ⟨_, tg_tup (tgs_cons tg_name (tgs_cons tg_name (tgs_cons tg_name tgs_nil))) rfl, ?_⟩
      try dsimp only
      rw [take_nxt ei, List.map_append]
      have sz : ((((m.ds.take i).filter (viaF r held)).map (toF m.ks r held)).map stateD).length < 100000 := by
        rw [List.length_map, List.length_map]
        have := List.length_filter_le (viaF r held) (m.ds.take i)
        rw [List.length_take] at this
        omega
      generalize ((m.ds.take i).filter (viaF r held)).map (toF m.ks r held) = Z at sz
      refine .inl (sx_if (b := opensF x.2.2 held) ((et_or (et_test (ev_isN (ev_var rfl))) fun _ => et_test (ev_inT (ds := held.map .int) (ev_var rfl) (ev_var rfl) (optD_flat _) (ints_flat _))).is (opt_any _ _)) (fun c => ?_) fun c => ?_)
      · refine sx_if (b := decide (x.1 = r)) (et_test (ev_eqI (ev_var rfl) (ev_var rfl))) (fun c1 => ?_) fun c1 => ?_
        · have e1 := of_decide_eq_true c1
          have e2 : viaF r held x = true := by unfold viaF; rw [c, decide_eq_true (.inl e1.symm)]; rfl
          have e3 : toF m.ks r held x = (x.2.1, taken m.ks x.2.1 held) := by unfold toF otherF; rw [if_pos e1]
          rw [if_pos e2, e3]
          exact nx_less (sx_app (d := stateD (x.2.1, taken m.ks x.2.1 held)) rfl (ev_tup (ea_cons (ev_var rfl) (ea_cons (ev_call (ea_cons (ev_var rfl) (ea_cons (ev_var rfl) (ea_cons (ev_var rfl) ea_nil))) ⟨m.ks, x.2.1, held, ⟨hk, hh⟩, rfl, rfl⟩) ea_nil)) (Nat.le_of_ble_eq_true rfl)) sz) (by walk_at "less")
        · have e1 := of_decide_eq_false c1
          have e3 : toF m.ks r held x = (x.1, taken m.ks x.1 held) := by unfold toF otherF; rw [if_neg e1]
          refine sx_if (b := decide (x.2.1 = r)) (et_test (ev_eqI (ev_var rfl) (ev_var rfl))) (fun c2 => ?_) fun c2 => ?_
          · have e2 : viaF r held x = true := by unfold viaF; rw [c, decide_eq_true (.inr (of_decide_eq_true c2).symm)]; rfl
            rw [if_pos e2, e3]
            exact nx_less (sx_app (d := stateD (x.1, taken m.ks x.1 held)) rfl (ev_tup (ea_cons (ev_var rfl) (ea_cons (ev_call (ea_cons (ev_var rfl) (ea_cons (ev_var rfl) (ea_cons (ev_var rfl) ea_nil))) ⟨m.ks, x.1, held, ⟨hk, hh⟩, rfl, rfl⟩) ea_nil)) (Nat.le_of_ble_eq_true rfl)) sz) (by walk_at "less")
          · have e2 : ¬ viaF r held x = true := by
              unfold viaF
              rw [decide_eq_false (fun z => z.elim (fun z => e1 z.symm) fun z => of_decide_eq_false c2 z.symm)]; exact Bool.false_ne_true
            rw [if_neg e2, List.map_nil, List.append_nil]
            exact nx_less sx_next (by walk_at "less")
      · have e2 : ¬ viaF r held x = true := by unfold viaF; rw [c, Bool.and_false]; exact Bool.false_ne_true
        rw [if_neg e2, List.map_nil, List.append_nil]
        exact nx_less sx_next (by walk_at "less")
  · rw [List.length_map, List.take_length]
    exact sx_retV rfl

/-! the rooms that can be come to -/
theorem nodup_le {α : Type} [DecidableEq α] : ∀ {l r : List α}, l.Nodup → (∀ x ∈ l, x ∈ r) → l.length ≤ r.length
  | [], _, _, _ => Nat.zero_le _
  | x :: t, r, h, k => by
    have h' := List.nodup_cons.mp h
    have hx := k x List.mem_cons_self
    have ih := nodup_le (l := t) (r := r.erase x) h'.2 fun y hy => by
      have n : y ≠ x := fun z => h'.1 (z ▸ hy)
      exact (List.mem_erase_of_ne n).mpr (k y (List.mem_cons_of_mem _ hy))
    rw [List.length_erase_of_mem hx] at ih
    have : 0 < r.length := List.length_pos_of_mem hx
    rw [List.length_cons]; omega
def allRooms (n : Int) : List Int := (List.range n.toNat).map fun (k : Nat) => (k : Int)
theorem allRooms_mem {n r : Int} : r ∈ allRooms n ↔ inRoom n r := by
  unfold allRooms inRoom
  rw [List.mem_map]
  constructor
  · rintro ⟨k, hk, rfl⟩
    have := List.mem_range.mp hk
    omega
  · rintro ⟨h1, h2⟩
    exact ⟨r.toNat, List.mem_range.mpr (by omega), by omega⟩
theorem allRooms_len (n : Int) : (allRooms n).length = n.toNat := by unfold allRooms; rw [List.length_map, List.length_range]
theorem rooms_le {n : Int} {l : List Int} (h : l.Nodup) (k : ∀ r ∈ l, inRoom n r) : l.length ≤ n.toNat := by
  rw [← allRooms_len]
  exact nodup_le h fun x hx => allRooms_mem.mpr (k x hx)
theorem rooms_full {n : Int} {l : List Int} (h : l.Nodup) (k : ∀ r ∈ l, inRoom n r) (e : n.toNat ≤ l.length) {r : Int} (hr : inRoom n r) : r ∈ l := Classical.byContradiction fun z => by
  have := rooms_le (n := n) (l := r :: l) (List.nodup_cons.mpr ⟨z, h⟩) fun x hx => by
    rcases List.mem_cons.mp hx with y | y
    · rw [y]; exact hr
    · exact k x y
  rw [List.length_cons] at this; omega
def opensIn (ks : List Key2) (rooms : List Int) (l : Option Int) : Bool := match l with
  | none => true
  | some k => !(rooms.filter fun r => decide ((r, k) ∈ ks)).isEmpty
def oneEnd (rooms : List Int) (d : Door) : Bool := !decide (decide (d.1 ∈ rooms) = decide (d.2.1 ∈ rooms))
def farEnd (rooms : List Int) (d : Door) : Int := if d.1 ∈ rooms then d.2.1 else d.1
def goesOn (ks : List Key2) (rooms : List Int) (d : Door) : Bool := oneEnd rooms d && opensIn ks rooms d.2.2
def nextR (m : Maze) (rooms : List Int) : Option Int := (m.ds.find? (goesOn m.ks rooms)).map (farEnd rooms)
def growR (m : Maze) : Nat → List Int → List Int
  | 0, r => r
  | f + 1, r => match nextR m r with
    | none => r
    | some x => growR m f (r ++ [x])
def comeR (m : Maze) (s : Int) : List Int := growR m m.n.toNat [s]
theorem farEnd_new {rooms : List Int} {d : Door} (h : oneEnd rooms d = true) : farEnd rooms d ∉ rooms := by
  unfold oneEnd at h
  unfold farEnd
  by_cases c : d.1 ∈ rooms
  · rw [if_pos c]
    intro z
    rw [decide_eq_true c, decide_eq_true z] at h
    simp at h
  · rw [if_neg c]; exact c
theorem nextR_new {m : Maze} {rooms : List Int} {x : Int} (h : nextR m rooms = some x) : x ∉ rooms := by
  unfold nextR at h
  cases e : m.ds.find? (goesOn m.ks rooms) with
  | none => rw [e] at h; cases h
  | some d =>
    rw [e] at h
    obtain rfl := Option.some.inj h
    have := List.find?_some e
    unfold goesOn at this
    rw [Bool.and_eq_true] at this
    exact farEnd_new this.1
theorem nextR_room {m : Maze} (hm : okMaze m) {rooms : List Int} {x : Int} (h : nextR m rooms = some x) : inRoom m.n x := by
  unfold nextR at h
  cases e : m.ds.find? (goesOn m.ks rooms) with
  | none => rw [e] at h; cases h
  | some d =>
    rw [e] at h
    obtain rfl := Option.some.inj h
    have hd := hm.2.2 d (List.mem_of_find?_eq_some e)
    unfold farEnd
    split
    · exact hd.2
    · exact hd.1
theorem nextR_full {m : Maze} (hm : okMaze m) {rooms : List Int} (h : ∀ r, inRoom m.n r → r ∈ rooms) : nextR m rooms = none := by
  unfold nextR
  rw [List.find?_eq_none.mpr]
  · rfl
  · intro d hd z
    have hd' := hm.2.2 d hd
    unfold goesOn oneEnd at z
    rw [decide_eq_true (h _ hd'.1), decide_eq_true (h _ hd'.2)] at z
    simp at z
def good1 (m : Maze) (l : List Int) : Prop := l.Nodup ∧ ∀ r ∈ l, inRoom m.n r
theorem good1_add {m : Maze} (hm : okMaze m) {l : List Int} {x : Int} (h : good1 m l) (e : nextR m l = some x) : good1 m (l ++ [x]) := by
  refine ⟨List.nodup_append.mpr ⟨h.1, List.nodup_cons.mpr ⟨List.not_mem_nil, List.nodup_nil⟩, fun a ha b hb => ?_⟩, fun r hr => ?_⟩
  · rw [List.mem_singleton.mp hb]
    exact fun z => nextR_new e (z ▸ ha)
  · rcases List.mem_append.mp hr with z | z
    · exact h.2 r z
    · rw [List.mem_singleton.mp z]; exact nextR_room hm e
/-- what grows: its first rooms, each next one, the end -/
theorem growR_is {m : Maze} (hm : okMaze m) : ∀ (f : Nat) (l : List Int), good1 m l → m.n.toNat ≤ l.length + f → good1 m (growR m f l) ∧ nextR m (growR m f l) = none ∧ (∃ t, growR m f l = l ++ t) ∧ ∀ (k : Nat) (x : Int), l.length ≤ k → (growR m f l)[k]? = some x → nextR m ((growR m f l).take k) = some x
  | 0, l, h, e => ⟨h, nextR_full hm fun r hr => rooms_full h.1 h.2 (by omega) hr, ⟨[], (List.append_nil _).symm⟩, fun k x hk z => by
    have hk' : l.length ≤ k := hk
    have z' : l[k]? = some x := z
    rw [List.getElem?_eq_none hk'] at z'; cases z'⟩
  | f + 1, l, h, e => by
    cases c : nextR m l with
    | none =>
      have eg : growR m (f + 1) l = l := by show (match nextR m l with | none => l | some x => growR m f (l ++ [x])) = l; rw [c]
      rw [eg]
      exact ⟨h, c, ⟨[], (List.append_nil _).symm⟩, fun k x hk z => by rw [List.getElem?_eq_none hk] at z; cases z⟩
    | some y =>
      have eg : growR m (f + 1) l = growR m f (l ++ [y]) := by show (match nextR m l with | none => l | some x => growR m f (l ++ [x])) = _; rw [c]
      rw [eg]
      obtain ⟨h1, h2, ⟨t, h3⟩, h4⟩ := growR_is hm f (l ++ [y]) (good1_add hm h c) (by rw [List.length_append]; show _ ≤ l.length + 1 + f; omega)
      refine ⟨h1, h2, ⟨y :: t, by rw [h3, List.append_assoc]; rfl⟩, fun k x hk z => ?_⟩
      by_cases ek : k = l.length
      · subst ek
        rw [h3] at z ⊢
        rw [List.append_assoc, List.getElem?_append_right (Nat.le_refl _), Nat.sub_self] at z
        have z' : some y = some x := z
        cases z'
        rw [List.append_assoc, List.take_left']
        · exact c
        · rfl
      · exact h4 k x (by rw [List.length_append]; show l.length + 1 ≤ k; omega) z

/-! ways_out, come -/
def outsF (rs : List Int) (d : Door) : List Int := [d.1, d.2.1].filter fun e => !decide (e ∈ rs)
theorem outs_cases (rs : List Int) (d : Door) : (oneEnd rs d = true ∧ outsF rs d = [farEnd rs d]) ∨ (oneEnd rs d = false ∧ (outsF rs d).length ≠ 1) := by
  unfold outsF oneEnd farEnd
  by_cases a : d.1 ∈ rs <;> by_cases b : d.2.1 ∈ rs
  · refine .inr ⟨by simp [a, b], by simp [a, b]⟩
  · refine .inl ⟨by simp [a, b], by simp [a, b]⟩
  · refine .inl ⟨by simp [a, b], by simp [a, b]⟩
  · refine .inr ⟨by simp [a, b], by simp [a, b]⟩
theorem opens_among (ks : List Key2) (rs : List Int) (l : Option Int) : opensF l (keysAmong ks rs) = opensIn ks rs l := by
  cases l with
  | none => rfl
  | some k =>
    show decide (k ∈ keysAmong ks rs) = !(rs.filter fun r => decide ((r, k) ∈ ks)).isEmpty
    rw [Bool.eq_iff_iff, decide_eq_true_eq, Bool.not_eq_true']
    unfold keysAmong
    rw [rise_mem, List.mem_map]
    constructor
    · rintro ⟨⟨r, k'⟩, h, rfl⟩
      obtain ⟨h1, h2⟩ := List.mem_filter.mp h
      have h2 : r ∈ rs := of_decide_eq_true h2
      cases e : rs.filter fun r => decide ((r, k') ∈ ks) with
      | nil =>
        have : r ∈ rs.filter fun r => decide ((r, k') ∈ ks) := List.mem_filter.mpr ⟨h2, decide_eq_true h1⟩
        rw [e] at this; cases this
      | cons => rfl
    · intro h
      cases e : rs.filter fun r => decide ((r, k) ∈ ks) with
      | nil => rw [e] at h; cases h
      | cons r t =>
        have : r ∈ rs.filter fun r => decide ((r, k) ∈ ks) := by rw [e]; exact List.mem_cons_self
        obtain ⟨h1, h2⟩ := List.mem_filter.mp this
        exact ⟨(r, k), List.mem_filter.mpr ⟨of_decide_eq_true h2, decide_eq_true h1⟩, rfl⟩
def waysF (m : Maze) (rs : List Int) : List Int := (m.ds.filter (goesOn m.ks rs)).map (farEnd rs)
theorem ways_next (m : Maze) (rs : List Int) : (waysF m rs).head? = nextR m rs := by
  unfold waysF nextR
  rw [List.head?_map, List.head?_filter]
def R_ways_out (ds : List PyData) (xs : List PyData) : Prop := ∃ (m : Maze) (rs : List Int), okMaze m ∧ ds = [mazeD m, .list (rs.map .int)] ∧ xs = (waysF m rs).map .int
theorem ok_ways_out (T : Txt K mg A) : FnOk P w K mg base CX0 2 A.a_ways_out A.d_ways_out ["maze", "reached"] (spL K R_ways_out) := by
  refine T.f_ways_out.ok sc_ways_out (fun vs H Q E h => ?_) (fun cdv Ar outer s H vs Q E hr h => ?_)
  · obtain ⟨H0, ds, d, sm, dv, ⟨m, rs, _, rfl, _⟩, _⟩ := h; exact dpa_len dv
  obtain ⟨H0, ds, d, sm, dv, ⟨m, rs, ⟨hk, hd, hdo⟩, rfl, rfl⟩, q⟩ := h
  refine ⟨_, (pss_cons (ps_set (i := 2) sc_ways_out.nd rfl (.inl rfl) (pe_callS (E := fun _ => E0) (ok_keys_among T) (hr.mono (by decide)) rfl T.g_keys_among T.f_keys_among.kp (b_keys_among T) (fun σ => pass0S) (pa_cons (pv 0) (pa_cons (pv 1) pa_nil))))
      (pss_cons (ps_set (i := 3) sc_ways_out.nd rfl (.inl rfl) (pe_lst pa_nil))
      (pss_cons (ps_for PassesOwn.never rfl (pi_list (pe_ix (r := rIxT K) (by exact ix_tup) (pv 0) pe_int (fun _ _ => rfl))) (pg_name (i := 4) sc_ways_out.nd rfl (Or.inl rfl))
        (pss_cons (ps_setLc (i := 5) (own := [("end", 6)]) (g := gName 6) rfl sc_ways_out.nd rfl rfl (sw_true rfl rfl rfl (by decide +kernel)) (pi_tup (pe_slice sl_tupA (pv 4) po_none (po_some pe_int))) (blkOk_by (own := [("end", 6)]) (N := n_ways_out) (sc := defScope s_ways_out) (by decide +kernel))
        (fun _ _ _ _ _ => (pg_name (i := 6) sc_ways_out.nd rfl (Or.inl rfl))) (fun _ _ _ _ _ => (pts_one (pt_cmpR (r := rIn K true) (by exact op_notIn_seq) (pv 6) (pv 1) (by rfl)))) (fun _ _ _ _ _ => (pv 6)))
      (pss_one (ps_if (PW.pt (pw_and (pt_cmpR op_eq (pe_callB call_len_seq (by rfl) T.u_len (by decide +kernel) (pa_cons (pv 5) pa_nil)) pe_int (nomark _)) (pw_and1 (pt_val (pe_callS (E := fun _ => E0) (ok_opens T) (hr.mono (by decide)) rfl T.g_opens T.f_opens.kp (b_opens T) (fun σ => pass0S) (pa_cons (pv 4) (pa_cons (pv 2) pa_nil))))))) (pss_one (ps_expr (pe_bm PySem.F.plainAttrs_list PySem.F.slot_list_append PySem.F.type_list_append mt_append (pv 3) (pa_cons (pe_ix (r := rIxL K) (by exact ix_list) (pv 5) pe_int (fun _ _ => rfl)) pa_nil)))) pss_nil))))
      (pss_one (ps_ret (pv 3)))))), ?_⟩
  refine Pf.run (X := fun _ _ _ _ => False) (oc := .rl ((waysF m rs).map .int)) sm dv rfl ?_ (fun p ws G H2 fr w1 w2 w3 w4 => q p ws G H2 fr (w1.elim False.elim id) w2 w3 w4)
  refine sx_seq (sx_set (ev_call (ea_cons (ev_var rfl) (ea_cons (ev_var rfl) ea_nil)) ⟨m, rs, hk.1, rfl, rfl⟩)) ?_
  refine sx_seq (sx_setO (eo_lst ea_nil (by decide))) ?_
  refine sx_seq (sx_for (ds := m.ds.map doorD) (ev_ixT (ds := [.int m.n, .list (m.ds.map doorD), .list (m.ks.map keyD)]) (ev_var rfl) (ev_c rfl) rfl) (fun i => [.dat (mazeD m), .dat (.list (rs.map .int)), .dat (handD (keysAmong m.ks rs)), .own ((((m.ds.take i).filter (goesOn m.ks rs)).map (farEnd rs)).map .int), .no, .no, .no]) rfl fun i d hi => ?_) ?_
  · rw [List.getElem?_map] at hi
    cases ei : m.ds[i]? with
    | none => rw [ei] at hi; cases hi
    | some x =>
      rw [ei] at hi
      obtain rfl := Option.some.inj hi
      refine ⟨_, tg_name, ?_⟩
      try dsimp only
      rw [take_nxt ei, List.map_append]
      have sz : ((((m.ds.take i).filter (goesOn m.ks rs)).map (farEnd rs)).map PyData.int).length < 100000 := by
        rw [List.length_map, List.length_map]
        have := List.length_filter_le (goesOn m.ks rs) (m.ds.take i)
        rw [List.length_take] at this
        omega
      generalize ((m.ds.take i).filter (goesOn m.ks rs)).map (farEnd rs) = Z at sz
      refine .inl (sx_seq (sx_setO (xs := (outsF rs x).map .int) ((eo_lcT [x.1, x.2.1] PyData.int (fun e => !decide (e ∈ rs)) PyData.int ((ev_sliceT (xs := [.int x.1, .int x.2.1, optD x.2.2]) (lo := none) (hi := some 2) (ev_var rfl) ep_no (ep_at (ev_c rfl))).is rfl) (Nat.le_of_ble_eq_true rfl) fun e _ => ⟨_, tgw_name (by decide), (et_test (ev_niL (ds := rs.map .int) (ev_var rfl) (ev_var rfl) rfl (ints_flat _))).is (by rw [ints_any]), fun _ => ev_var rfl⟩).is rfl)) ?_)
      refine sx_if (b := goesOn m.ks rs x) (EvT.is (b := decide (((outsF rs x).map PyData.int).length = (1 : Int)) && opensF x.2.2 (keysAmong m.ks rs)) (et_and (et_test (ev_eqI (ev_lenO (el_var rfl)) (ev_c rfl))) fun _ => et_B (ev_call (ea_cons (ev_var rfl) (ea_cons (ev_var rfl) ea_nil)) ⟨x, _, rfl, rfl⟩)) ?_) (fun c => ?_) fun c => ?_
      · rw [opens_among]
        unfold goesOn
        congr 1
        rw [List.length_map]
        rcases outs_cases rs x with ⟨e1, e2⟩ | ⟨e1, e2⟩
        · rw [e1, e2]; rfl
        · rw [e1]; exact decide_eq_false (by omega)
      · rw [if_pos c]
        have e2 : outsF rs x = [farEnd rs x] := by
          unfold goesOn at c
          rw [Bool.and_eq_true] at c
          rcases outs_cases rs x with ⟨_, e2⟩ | ⟨e1, _⟩
          · exact e2
          · rw [e1] at c; cases c.1
        rw [e2]
        exact nx_less (sx_app (d := .int (farEnd rs x)) rfl (ev_ixO (ds := [.int (farEnd rs x)]) (el_var rfl) (ev_c rfl) rfl fun _ _ _ _ => trivial) sz) (by walk_at "less")
      · rw [if_neg (by rw [c]; decide), List.map_nil, List.append_nil]
        exact nx_less sx_next (by walk_at "less")
  · rw [List.length_map, List.take_length]
    exact sx_retV rfl
def R_come (ds : List PyData) (xs : List PyData) : Prop := ∃ (m : Maze) (s : Int), (okMaze m ∧ inRoom m.n s ∧ m.n ≤ 60) ∧ ds = [mazeD m, .int s] ∧ xs = (comeR m s).map .int
def B_come (A : Ad) (ds : List PyData) (c : Value) : Prop := ∃ (m : Maze) (s : Int), ¬ inRoom m.n s ∧ ds = [mazeD m, .int s] ∧ c = .ref A.c_NoRoom
/-- what come is -/
theorem comeR_is {m : Maze} (hm : okMaze m) {s : Int} (hs : inRoom m.n s) : good1 m (comeR m s) ∧ nextR m (comeR m s) = none ∧ (∃ t, comeR m s = s :: t) ∧ ∀ (k : Nat) (x : Int), 1 ≤ k → (comeR m s)[k]? = some x → nextR m ((comeR m s).take k) = some x := by
  have h := growR_is hm m.n.toNat [s] ⟨List.nodup_cons.mpr ⟨List.not_mem_nil, List.nodup_nil⟩, fun r hr => by rw [List.mem_singleton.mp hr]; exact hs⟩ (by rw [List.length_singleton]; omega)
  exact h
theorem comeR_len {m : Maze} (hm : okMaze m) {s : Int} (hs : inRoom m.n s) : 1 ≤ (comeR m s).length ∧ (comeR m s).length ≤ m.n.toNat := by
  obtain ⟨h1, _, ⟨t, h3⟩, _⟩ := comeR_is hm hs
  refine ⟨by rw [h3, List.length_cons]; omega, rooms_le h1.1 h1.2⟩
theorem ok_come (T : Txt K mg A) : FnOk P w K mg base (L2.CX P w) 3 A.a_come A.d_come ["maze", "start"] (spXL K R_come (B_come A)) := by
  refine T.f_come.okX sc_come (fun vs H Q E h => ?_) (fun cdv Ar outer s H vs Q E hr h => ?_)
  · obtain ⟨H0, ds, sm, dv, ⟨d, ⟨m, r, _, rfl, _⟩, _⟩ | ⟨c, ⟨m, r, _, rfl, _⟩, _⟩⟩ := h <;> exact dpa_len dv
  obtain ⟨H0, ds, sm, dv, hh⟩ := h
  refine ⟨_, (pss_cons (ps_expr (pe_callS (ok_need_room T) (hr.mono (by decide)) rfl T.g_need_room T.f_need_room.kp (b_need_room T) (fun σ => passAt (takes_of rfl rfl rfl rfl) σ) (pa_cons (pe_ix (r := rIxT K) (by exact ix_tup) (pv 0) pe_int (fun _ _ => rfl)) (pa_cons (pv 1) pa_nil))))
      (pss_cons (ps_set (i := 2) sc_come.nd rfl (.inl rfl) (pe_lst (pa_cons (pv 1) pa_nil)))
      (pss_cons (ps_set (i := 3) sc_come.nd rfl (.inl rfl) (pe_callS (E := fun _ => E0) (ok_ways_out T) (hr.mono (by decide)) rfl T.g_ways_out T.f_ways_out.kp (b_ways_out T) (fun σ => pass0S) (pa_cons (pv 0) (pa_cons (pv 2) pa_nil))))
      (pss_cons (ps_while (passes_of rfl) (pt_cmpR op_gt (pe_callB call_len_seq (by rfl) T.u_len (by decide +kernel) (pa_cons (pv 3) pa_nil)) pe_int (nomark _)) (pss_cons (ps_expr (pe_bm PySem.F.plainAttrs_list PySem.F.slot_list_append PySem.F.type_list_append mt_append (pv 2) (pa_cons (pe_ix (r := rIxL K) (by exact ix_list) (pv 3) pe_int (fun _ _ => rfl)) pa_nil)))
      (pss_one (ps_set (i := 3) sc_come.nd rfl (.inl rfl) (pe_callS (E := fun _ => E0) (ok_ways_out T) (hr.mono (by decide)) rfl T.g_ways_out T.f_ways_out.kp (b_ways_out T) (fun σ => pass0S) (pa_cons (pv 0) (pa_cons (pv 2) pa_nil)))))))
      (pss_one (ps_ret (pv 2))))))), ?_⟩
  have first : ∀ {m : Maze} {r : Int}, EvA K (tCons (tOp (rIxT K) (tVar 0) (tC (.int 0))) (tCons (tVar 1) tNil)) [.dat (mazeD m), .dat (.int r), .no, .no] [.int m.n, .int r] := fun {m r} => ea_cons (ev_ixT (ds := [.int m.n, .list (m.ds.map doorD), .list (m.ks.map keyD)]) (ev_var rfl) (ev_c rfl) rfl) (ea_cons (ev_var rfl) ea_nil)
  rcases hh with ⟨xs, ⟨m, r, ⟨hm, hr0, h60⟩, rfl, rfl⟩, q⟩ | ⟨c, ⟨m, r, hr0, rfl, rfl⟩, q⟩
  · refine Pf.run (X := fun cls d _ H => E cls d H) (oc := .rl ((comeR m r).map .int)) sm dv rfl ?_ (fun p ws G H2 fr w1 w2 w3 w4 => q p ws G H2 fr (w1.elim False.elim id) w2 w3 w4)
    obtain ⟨c1, c2, ⟨t, c3⟩, c4⟩ := comeR_is hm hr0
    have cl := comeR_len hm hr0
    refine sx_seq (sx_drop (ev_callX first ⟨m.n, r, hr0, rfl, rfl⟩)) ?_
    refine sx_seq (sx_setO (eo_lst (ea_cons (ev_var rfl) ea_nil) (Nat.le_of_ble_eq_true rfl))) ?_
    have way : ∀ (rs : List Int) (s : SV), EvO K (tCallS (spL K R_ways_out) (fun _ => E0) (tCons (tVar 0) (tCons (tVar 2) tNil))) [.dat (mazeD m), .dat (.int r), .own (rs.map .int), s] ((waysF m rs).map .int) := fun rs s => eo_fixI 2 rfl (eo_call (ea_cons (ev_var rfl) (ea_cons (ev_var rfl) ea_nil)) ⟨m, rs, hm, rfl, rfl⟩)
    refine sx_seq (sx_setO (way [r] _)) ?_
    refine sx_seq (sx_while (n := (comeR m r).length - 1) (fun i => [.dat (mazeD m), .dat (.int r), .own (((comeR m r).take (i + 1)).map .int), .own ((waysF m ((comeR m r).take (i + 1))).map .int)]) (by rw [c3]; rfl) (fun i hi => ⟨?_, ?_⟩) ?_) ?_
    · have ei : (comeR m r)[i + 1]? = some (comeR m r)[i + 1] := List.getElem?_eq_getElem (by omega)
      have e := (ways_next m ((comeR m r).take (i + 1))).trans (c4 (i + 1) _ (by omega) ei)
      refine et_test (Ev.is (d := .bool (decide ((0 : Int) < ((waysF m ((comeR m r).take (i + 1))).map PyData.int).length))) (by exact ev_I0 (ev_lenO (el_var rfl)) (ev_c rfl) rfl) ?_)
      congr 1
      cases ew : waysF m ((comeR m r).take (i + 1)) with
      | nil => rw [ew] at e; cases e
      | cons a b => rw [List.map_cons, List.length_cons]; exact decide_eq_true (by omega)
    · have ei : (comeR m r)[i + 1]? = some (comeR m r)[i + 1] := List.getElem?_eq_getElem (by omega)
      have e := (ways_next m ((comeR m r).take (i + 1))).trans (c4 (i + 1) _ (by omega) ei)
      have et : (comeR m r).take (i + 1 + 1) = (comeR m r).take (i + 1) ++ [(comeR m r)[i + 1]] := List.take_succ_eq_append_getElem (by omega)
      try dsimp only
      rw [et]
      generalize (comeR m r)[i + 1] = y at e
      cases ew : waysF m ((comeR m r).take (i + 1)) with
      | nil => rw [ew] at e; cases e
      | cons a b =>
        rw [ew] at e
        obtain rfl : a = y := Option.some.inj e
        have sz : (((comeR m r).take (i + 1)).map PyData.int).length < 100000 := by
          rw [List.length_map, List.length_take]; omega
        generalize (comeR m r).take (i + 1) = Z at sz
        have w2 := way (Z ++ [a]) (.own ((a :: b).map .int))
        rw [List.map_append] at w2
        rw [List.map_append]
        refine .inl (sx_seq (sx_app (d := .int a) rfl (ev_ixO (ds := .int a :: b.map .int) (el_var rfl) (ev_c rfl) (atI_int (by decide) rfl) fun _ _ _ _ => trivial) sz) ?_)
        exact sx_last (sx_seq (sx_setO w2) sx_next)
    · have et : (comeR m r).take ((comeR m r).length - 1 + 1) = comeR m r := List.take_of_length_le (by omega)
      rw [et]
      have e := (ways_next m (comeR m r)).trans c2
      cases ew : waysF m (comeR m r) with
      | nil => exact et_test (Ev.is (ev_I0 (ev_lenO (el_var rfl)) (ev_c rfl) rfl) rfl)
      | cons a b => rw [ew] at e; cases e
    · have et : (comeR m r).take ((comeR m r).length - 1 + 1) = comeR m r := List.take_of_length_le (by omega)
      rw [et]
      exact sx_retV rfl
  · refine Pf.run (X := fun cls d _ H => E cls d H) (oc := .ex (.ref A.c_NoRoom) [.dat (mazeD m), .dat (.int r), .no, .no]) sm dv rfl ?_ (fun σ G H2 f _ _ => q G H2 f)
    exact sx_end (sx_outD (evx_call first ⟨m.n, r, hr0, rfl, rfl⟩)) rfl

/-! states as data -/
theorem sh_state (s : Int × List Int) : Sh 2 (stateD s) := sh2 sh_int (sh_hand s.2)
theorem state_inj {a b : Int × List Int} : stateD a = stateD b → a = b := fun h => by
  obtain ⟨a1, a2⟩ := a
  obtain ⟨b1, b2⟩ := b
  injection h with h
  injection h with h1 h2
  injection h2 with h2 _
  injection h1 with h1
  exact Prod.ext h1 (hand_inj.mpr h2)
theorem sh_states (u : List (Int × List Int)) : Sh 3 (.list (u.map stateD)) := sh_lst (sh_map fun s _ => sh_state s)

/-! walks: lists of rooms in their order -/
abbrev State := Int × List Int
abbrev Ent2 := State × List Int
theorem lt_app {x y : List Int} : ∀ {a b : List Int}, a.length = b.length → a < b → a ++ x < b ++ y
  | [], [], _, h => absurd h (List.lt_irrefl _)
  | [], _ :: _, e, _ => by cases e
  | _ :: _, [], e, _ => by cases e
  | p :: a, q :: b, e, h => by
    rw [List.cons_lt_cons_iff] at h
    show p :: (a ++ x) < q :: (b ++ y)
    rw [List.cons_lt_cons_iff]
    rcases h with h | ⟨h1, h2⟩
    · exact .inl h
    · exact .inr ⟨h1, lt_app (by rw [List.length_cons, List.length_cons] at e; omega) h2⟩
theorem le_app {x y : Int} (h : x ≤ y) : ∀ a : List Int, a ++ [x] ≤ a ++ [y]
  | [] => by
    show ¬ ([y] < [x])
    rw [List.cons_lt_cons_iff]
    rintro (z | ⟨_, z⟩)
    · omega
    · exact List.lt_irrefl _ z
  | p :: a => by
    intro z
    have z' : p :: (a ++ [y]) < p :: (a ++ [x]) := z
    rw [List.cons_lt_cons_iff] at z'
    rcases z' with z' | ⟨_, z'⟩
    · omega
    · exact le_app h a z'
theorem ll_of_lt {a b : List Int} (h : a < b) : a ≤ b := List.le_of_lt h
theorem ll_anti {a b : List Int} (h : a ≤ b) (k : b ≤ a) : a = b := List.le_antisymm h k
theorem ll_trans {a b c : List Int} (h : a ≤ b) (k : b ≤ c) : a ≤ c := List.le_trans h k
theorem ll_total (a b : List Int) : a ≤ b ∨ b ≤ a := List.le_total a b
theorem ll_ne {a b : List Int} (h : a ≤ b) (k : a ≠ b) : a < b := Classical.byContradiction fun z => k (ll_anti h (List.not_lt.mp z))
/-- states in their order -/
def stLe (a b : State) : Bool := decide (a.1 < b.1 ∨ (a.1 = b.1 ∧ a.2 ≤ b.2))
theorem stLt_data (p q : State) : PySem.W.dataLt (stateD p) (stateD q) = decide (p.1 < q.1 ∨ (p.1 = q.1 ∧ p.2 < q.2)) := by
  unfold stateD handD
  rw [PySem.W.dataLt_pair (by simp [PySem.W.alike]) (by rw [PySem.W.alike]; exact PySem.W.alike_ints _ _), PySem.W.dataLt_int, PySem.W.dataLt_tuple]
  have e : PyProof.Rows.lexLt PyProof.Rows.itemOrd (PySem.W.keyToksAll (p.2.map .int)) (PySem.W.keyToksAll (q.2.map .int)) = decide (p.2 < q.2) := PySem.W.dataLt_ints _ _
  rw [e]
  by_cases h1 : p.1 = q.1
  · have h1' : PyData.eqv (.int p.1) (.int q.1) = true := by rw [eqv_int, decide_eq_true h1]
    rw [if_pos h1']
    by_cases h2 : p.2 = q.2
    · have h2' : PyData.eqv (.tuple (p.2.map .int)) (.tuple (q.2.map .int)) = true := (eqv_dec (sh_hand p.2) (sh_hand q.2) hand_inj).trans (decide_eq_true h2)
      rw [if_pos h2', h1, h2]
      exact (decide_eq_false (by rintro (z | ⟨_, z⟩); exact absurd z (by omega); exact List.lt_irrefl _ z)).symm
    · have h2' : ¬ PyData.eqv (.tuple (p.2.map .int)) (.tuple (q.2.map .int)) = true := fun z => h2 (of_decide_eq_true ((eqv_dec (sh_hand p.2) (sh_hand q.2) hand_inj).symm.trans z))
      rw [if_neg h2']
      exact decide_eq_decide.mpr ⟨fun z => .inr ⟨h1, z⟩, fun z => z.elim (fun z => by omega) (·.2)⟩
  · have h1' : ¬ PyData.eqv (.int p.1) (.int q.1) = true := by rw [eqv_int, decide_eq_false h1]; decide
    rw [if_neg h1']
    exact decide_eq_decide.mpr ⟨.inl, fun z => z.elim id fun z => absurd z.1 h1⟩
theorem stLe_data : PySem.W.dataLe false stateD = stLe := by
  funext p q
  show (!PySem.W.dataLt (stateD q) (stateD p)) = stLe p q
  rw [stLt_data]
  unfold stLe
  by_cases h : p.1 < q.1 ∨ (p.1 = q.1 ∧ p.2 ≤ q.2)
  · rw [decide_eq_true h, decide_eq_false]; rfl
    rintro (z | ⟨z, y⟩)
    · rcases h with h | h <;> omega
    · rcases h with h | h
      · omega
      · exact h.2 y
  · rw [decide_eq_false h, decide_eq_true]; rfl
    by_cases c : q.1 < p.1
    · exact .inl c
    · by_cases c2 : p.1 = q.1
      · exact .inr ⟨c2.symm, Classical.byContradiction fun z => h (.inr ⟨c2, z⟩)⟩
      · exact absurd (.inl (by omega)) h
theorem stLe_trans (a b c : State) (h : stLe a b = true) (k : stLe b c = true) : stLe a c = true := by
  unfold stLe at *
  rw [decide_eq_true_eq] at *
  rcases h with h | ⟨h1, h2⟩ <;> rcases k with k | ⟨k1, k2⟩
  · exact .inl (by omega)
  · exact .inl (by omega)
  · exact .inl (by omega)
  · exact .inr ⟨by omega, ll_trans h2 k2⟩
theorem stLe_total (a b : State) : (stLe a b || stLe b a) = true := by
  unfold stLe
  rw [Bool.or_eq_true, decide_eq_true_eq, decide_eq_true_eq]
  by_cases h : a.1 < b.1
  · exact .inl (.inl h)
  · by_cases k : b.1 < a.1
    · exact .inr (.inl k)
    · rcases ll_total a.2 b.2 with z | z
      · exact .inl (.inr ⟨by omega, z⟩)
      · exact .inr (.inr ⟨by omega, z⟩)
def sortS (l : List State) : List State := l.mergeSort (PySem.W.dataLe false stateD)
theorem sortS_mem {l : List State} {x : State} : x ∈ sortS l ↔ x ∈ l := (List.mergeSort_perm _ _).mem_iff
theorem sortS_up (l : List State) : (sortS l).Pairwise fun a b => a.1 ≤ b.1 := by
  unfold sortS
  rw [stLe_data]
  refine (List.pairwise_mergeSort stLe_trans stLe_total l).imp fun {a b} h => ?_
  unfold stLe at h
  rw [decide_eq_true_eq] at h
  rcases h with h | h <;> omega

/-! the states in the order in which they are met, layer by layer -/
def st0 (m : Maze) (s : Int) : State := (s, taken m.ks s [])
def stepsS (m : Maze) (x : State) : List State := stepsF m x.1 x.2
def addE (prev : List State) (E : List Ent2) (c : Ent2) : List Ent2 := if c.1 ∈ prev ∨ c.1 ∈ E.map (·.1) then E else E ++ [c]
def growE (prev : List State) (cs : List Ent2) : List Ent2 := cs.foldl (addE prev) []
def candP (m : Maze) (L : List Ent2) : List Ent2 := L.flatMap fun e => (sortS (stepsS m e.1)).map fun t => (t, e.2 ++ [t.1])
theorem growE_snoc (prev : List State) (cs : List Ent2) (c : Ent2) : growE prev (cs ++ [c]) = addE prev (growE prev cs) c := by
  unfold growE; rw [List.foldl_append]; rfl
theorem snoc_ind {α : Type} {P : List α → Prop} (h0 : P []) (hs : ∀ l a, P l → P (l ++ [a])) (l : List α) : P l := by
  have : ∀ n (l : List α), l.length = n → P l := by
    intro n
    induction n with
    | zero => intro l e; rw [List.length_eq_zero_iff.mp e]; exact h0
    | succ n ih =>
      intro l e
      have hne : l ≠ [] := fun z => by rw [z] at e; cases e
      rw [← List.dropLast_concat_getLast hne]
      exact hs _ _ (ih _ (by rw [List.length_dropLast]; omega))
  exact this _ l rfl
theorem growE_keys (prev : List State) (cs : List Ent2) : ∀ x, x ∈ (growE prev cs).map (·.1) ↔ x ∉ prev ∧ x ∈ cs.map (·.1) := by
  refine snoc_ind (P := fun cs => ∀ x, x ∈ (growE prev cs).map (·.1) ↔ x ∉ prev ∧ x ∈ cs.map (·.1)) (fun x => by simp [growE]) (fun cs c ih x => ?_) cs
  rw [growE_snoc]
  unfold addE
  split
  · rename_i h
    rw [ih, List.map_append, List.mem_append]
    constructor
    · exact fun z => ⟨z.1, .inl z.2⟩
    · rintro ⟨z1, z2 | z2⟩
      · exact ⟨z1, z2⟩
      · have e : x = c.1 := List.mem_singleton.mp z2
        rcases h with h | h
        · exact absurd (e ▸ h) z1
        · exact e ▸ (ih c.1).mp h
  · rename_i h
    rw [List.map_append, List.mem_append, ih, List.map_append, List.mem_append]
    constructor
    · rintro (z | z)
      · exact ⟨z.1, .inl z.2⟩
      · have e : x = c.1 := List.mem_singleton.mp z
        exact ⟨fun y => h (.inl (e ▸ y)), .inr z⟩
    · rintro ⟨z1, z2 | z2⟩
      · exact .inl ⟨z1, z2⟩
      · exact .inr z2
theorem growE_nodup (prev : List State) (cs : List Ent2) : ((growE prev cs).map (·.1)).Nodup := by
  refine snoc_ind (P := fun cs => ((growE prev cs).map (·.1)).Nodup) List.nodup_nil (fun cs c ih => ?_) cs
  rw [growE_snoc]
  unfold addE
  split
  · exact ih
  · rename_i h
    rw [List.map_append]
    refine List.nodup_append.mpr ⟨ih, List.nodup_cons.mpr ⟨List.not_mem_nil, List.nodup_nil⟩, fun a ha b hb => ?_⟩
    rw [List.mem_singleton.mp hb]
    exact fun z => h (.inr ((show a = c.1 from z) ▸ ha))
theorem growE_sub (prev : List State) (cs : List Ent2) : (growE prev cs).Sublist cs := by
  refine snoc_ind (P := fun cs => (growE prev cs).Sublist cs) (List.Sublist.refl _) (fun cs c ih => ?_) cs
  rw [growE_snoc]
  unfold addE
  split
  · exact ih.trans (List.sublist_append_left _ _)
  · exact ih.append (List.Sublist.refl _)
/-- of what comes in order, the least of each -/
theorem growE_mem {prev : List State} {cs : List Ent2} (up : cs.Pairwise fun a b => a.2 ≤ b.2) : ∀ e : Ent2, e ∈ growE prev cs ↔ e.1 ∉ prev ∧ e ∈ cs ∧ ∀ v, (e.1, v) ∈ cs → e.2 ≤ v := by
  revert up
  refine snoc_ind (P := fun cs => (cs.Pairwise fun a b => a.2 ≤ b.2) → ∀ e : Ent2, e ∈ growE prev cs ↔ e.1 ∉ prev ∧ e ∈ cs ∧ ∀ v, (e.1, v) ∈ cs → e.2 ≤ v) (fun _ e => by simp [growE]) (fun cs c ih up e => ?_) cs
  obtain ⟨up1, _, up3⟩ := List.pairwise_append.mp up
  have ih := ih up1
  have last : ∀ x ∈ cs, x.2 ≤ c.2 := fun x hx => up3 x hx c (List.mem_singleton.mpr rfl)
  rw [growE_snoc]
  unfold addE
  split
  · rename_i h
    rw [ih]
    constructor
    · rintro ⟨a, b, d⟩
      refine ⟨a, List.mem_append.mpr (.inl b), fun v hv => ?_⟩
      rcases List.mem_append.mp hv with z | z
      · exact d v z
      · have ev : (e.1, v) = c := List.mem_singleton.mp z
        have : v = c.2 := by rw [← ev]
        rw [this]; exact last e b
    · rintro ⟨a, b, d⟩
      have d' : ∀ v, (e.1, v) ∈ cs → e.2 ≤ v := fun v hv => d v (List.mem_append.mpr (.inl hv))
      rcases List.mem_append.mp b with z | z
      · exact ⟨a, z, d'⟩
      · have ec : e = c := List.mem_singleton.mp z
        rcases h with h | h
        · exact absurd (ec ▸ h) a
        · have hk := ((growE_keys prev cs c.1).mp h).2
          obtain ⟨x, hx, ex⟩ := List.mem_map.mp hk
          have x1 : x.2 ≤ e.2 := ec ▸ last x hx
          have x2 : e.2 ≤ x.2 := d' x.2 (by rw [ec, ← ex]; exact hx)
          have : x = e := Prod.ext (by rw [ex, ec]) (ll_anti x1 x2)
          exact ⟨a, this ▸ hx, d'⟩
  · rename_i h
    rw [List.mem_append, ih]
    constructor
    · rintro (⟨a, b, d⟩ | z)
      · refine ⟨a, List.mem_append.mpr (.inl b), fun v hv => ?_⟩
        rcases List.mem_append.mp hv with z | z
        · exact d v z
        · have ev : (e.1, v) = c := List.mem_singleton.mp z
          have : v = c.2 := by rw [← ev]
          rw [this]; exact last e b
      · have ec : e = c := List.mem_singleton.mp z
        refine ⟨fun y => h (.inl (ec ▸ y)), List.mem_append.mpr (.inr z), fun v hv => ?_⟩
        rcases List.mem_append.mp hv with y | y
        · have hk : e.1 ∈ (growE prev cs).map (·.1) := (growE_keys prev cs e.1).mpr ⟨fun y => h (.inl (ec ▸ y)), List.mem_map.mpr ⟨_, y, rfl⟩⟩
          exact absurd (.inr (ec ▸ hk)) h
        · have ev : (e.1, v) = c := List.mem_singleton.mp y
          have : v = e.2 := by rw [ec, ← ev]
          rw [this]; exact List.le_refl _
    · rintro ⟨a, b, d⟩
      rcases List.mem_append.mp b with z | z
      · exact .inl ⟨a, z, fun v hv => d v (List.mem_append.mpr (.inl hv))⟩
      · exact .inr z
/-- behind k layers: all that stand in them, the next one -/
def layP (m : Maze) (s : Int) : Nat → List Ent2 × List Ent2
  | 0 => ([], [(st0 m s, [s])])
  | k + 1 => ((layP m s k).1 ++ (layP m s k).2, growE (((layP m s k).1 ++ (layP m s k).2).map (·.1)) (candP m (layP m s k).2))
def heldW (m : Maze) (w : List Int) : List Int := w.foldl (fun h r => taken m.ks r h) []
def stW (m : Maze) (w : List Int) : State := (w.getLast?.getD 0, heldW m w)
theorem stW_snoc (m : Maze) (w : List Int) (r : Int) : stW m (w ++ [r]) = (r, taken m.ks r (heldW m w)) := by
  unfold stW heldW
  rw [List.foldl_append, List.getLast?_append]; rfl
theorem steps_to {m : Maze} {x t : State} (h : t ∈ stepsS m x) : t.2 = taken m.ks t.1 x.2 := by
  unfold stepsS stepsF at h
  obtain ⟨d, _, rfl⟩ := List.mem_map.mp h
  rfl
structure LayOk (m : Maze) (s : Int) (k : Nat) (P L : List Ent2) : Prop where
  nd : ((P ++ L).map (·.1)).Nodup
  up : L.Pairwise fun a b => a.2 < b.2
  wk : ∀ e ∈ L, e.2.length = k + 1 ∧ e.2.head? = some s ∧ e.1 = stW m e.2
theorem candP_mem {m : Maze} {L : List Ent2} {c : Ent2} : c ∈ candP m L ↔ ∃ e ∈ L, c.1 ∈ stepsS m e.1 ∧ c.2 = e.2 ++ [c.1.1] := by
  unfold candP
  rw [List.mem_flatMap]
  constructor
  · rintro ⟨e, he, hc⟩
    obtain ⟨t, ht, rfl⟩ := List.mem_map.mp hc
    exact ⟨e, he, sortS_mem.mp ht, rfl⟩
  · rintro ⟨e, he, h1, h2⟩
    exact ⟨e, he, List.mem_map.mpr ⟨c.1, sortS_mem.mpr h1, by rw [← h2]⟩⟩
theorem candP_up {m : Maze} {s : Int} {k : Nat} {P L : List Ent2} (h : LayOk m s k P L) : (candP m L).Pairwise fun a b => a.2 ≤ b.2 := by
  unfold candP
  refine List.pairwise_flatMap.mpr ⟨fun e _ => ?_, h.up.imp_of_mem fun {a b} ha hb hab x hx y hy => ?_⟩
  · refine List.Pairwise.map _ (fun a b hab => ?_) (sortS_up _)
    exact le_app hab _
  · obtain ⟨t, _, rfl⟩ := List.mem_map.mp hx
    obtain ⟨u, _, rfl⟩ := List.mem_map.mp hy
    refine ll_of_lt (lt_app ?_ hab)
    rw [(h.wk a ha).1, (h.wk b hb).1]
theorem cand_ok {m : Maze} {s : Int} {k : Nat} {P L : List Ent2} (h : LayOk m s k P L) {c : Ent2} (hc : c ∈ candP m L) : c.2.length = k + 2 ∧ c.2.head? = some s ∧ c.1 = stW m c.2 := by
  obtain ⟨e, he, h1, h2⟩ := candP_mem.mp hc
  obtain ⟨w1, w2, w3⟩ := h.wk e he
  refine ⟨by rw [h2, List.length_append, w1]; rfl, ?_, ?_⟩
  · rw [h2, List.head?_append, w2]; rfl
  · rw [h2, stW_snoc]
    have hh : heldW m e.2 = e.1.2 := by rw [w3]; rfl
    rw [hh, ← steps_to h1]
theorem layOk_next {m : Maze} {s : Int} {k : Nat} {P L : List Ent2} (h : LayOk m s k P L) : LayOk m s (k + 1) (P ++ L) (growE ((P ++ L).map (·.1)) (candP m L)) := by
  refine ⟨?_, ?_, fun e he => cand_ok h ((growE_sub _ _).subset he)⟩
  · rw [List.map_append]
    refine List.nodup_append.mpr ⟨h.nd, growE_nodup _ _, fun a ha b hb => ?_⟩
    exact fun z => ((growE_keys _ _ b).mp hb).1 (z ▸ ha)
  · have hp := (candP_up h).sublist (growE_sub ((P ++ L).map (·.1)) (candP m L))
    have hn := growE_nodup ((P ++ L).map (·.1)) (candP m L)
    have hn' : (growE ((P ++ L).map (·.1)) (candP m L)).Pairwise fun a b => a.1 ≠ b.1 := (List.pairwise_map.mp hn)
    refine (hp.and hn').imp_of_mem fun {a b} ha hb hab => ll_ne hab.1 fun z => hab.2 ?_
    rw [(cand_ok h ((growE_sub _ _).subset ha)).2.2, (cand_ok h ((growE_sub _ _).subset hb)).2.2, z]
theorem layOk (m : Maze) (s : Int) : ∀ k, LayOk m s k (layP m s k).1 (layP m s k).2
  | 0 => ⟨List.nodup_cons.mpr ⟨List.not_mem_nil, List.nodup_nil⟩, List.pairwise_singleton _ _, fun e he => by
    rw [List.mem_singleton.mp he]
    exact ⟨rfl, rfl, rfl⟩⟩
  | k + 1 => layOk_next (layOk m s k)
theorem lay_mem {m : Maze} {s : Int} {k : Nat} (e : Ent2) : e ∈ (layP m s (k + 1)).2 ↔ e.1 ∉ (layP m s (k + 1)).1.map (·.1) ∧ e ∈ candP m (layP m s k).2 ∧ ∀ v, (e.1, v) ∈ candP m (layP m s k).2 → e.2 ≤ v :=
  growE_mem (candP_up (layOk m s k)) e

/-! dicts as lists of pairs -/
section
variable {α : Type}
def getE (M : List (State × α)) (k : State) : Option α := (M.find? fun e => decide (e.1 = k)).map (·.2)
def putE (M : List (State × α)) (k : State) (v : α) : List (State × α) := if (getE M k).isSome = true then M.map (fun e => if e.1 = k then (e.1, v) else e) else M ++ [(k, v)]
theorem getE_some {M : List (State × α)} {k : State} {v : α} (h : getE M k = some v) : (k, v) ∈ M := by
  unfold getE at h
  cases e : M.find? fun e => decide (e.1 = k) with
  | none => rw [e] at h; cases h
  | some p =>
    rw [e] at h
    have h1 := List.mem_of_find?_eq_some e
    have h2 : p.1 = k := of_decide_eq_true (List.find?_some (p := fun e : State × α => decide (e.1 = k)) e)
    obtain rfl := Option.some.inj h
    rw [← h2]; exact h1
theorem getE_isSome {M : List (State × α)} {k : State} : (getE M k).isSome = true ↔ k ∈ M.map (·.1) := by
  unfold getE
  rw [Option.isSome_map, List.find?_isSome]
  constructor
  · rintro ⟨x, hx, e⟩
    exact List.mem_map.mpr ⟨x, hx, of_decide_eq_true e⟩
  · intro h
    obtain ⟨x, hx, e⟩ := List.mem_map.mp h
    exact ⟨x, hx, decide_eq_true e⟩
theorem getE_none {M : List (State × α)} {k : State} : getE M k = none ↔ k ∉ M.map (·.1) := by
  rw [← getE_isSome]
  cases getE M k <;> simp
theorem getE_of_mem {M : List (State × α)} (nd : (M.map (·.1)).Nodup) {k : State} {v : α} (h : (k, v) ∈ M) : getE M k = some v := by
  cases e : getE M k with
  | none => exact absurd (List.mem_map.mpr ⟨(k, v), h, rfl⟩) (getE_none.mp e)
  | some u =>
    have hu := getE_some e
    induction M with
    | nil => cases h
    | cons p t ih =>
      have nd' := List.nodup_cons.mp nd
      rcases List.mem_cons.mp h with z | z <;> rcases List.mem_cons.mp hu with y | y
      · rw [← z] at y; exact congrArg some (Prod.mk.inj y).2
      · exact absurd (List.mem_map.mpr ⟨_, y, by rw [← z]⟩) nd'.1
      · exact absurd (List.mem_map.mpr ⟨_, z, by rw [← y]⟩) nd'.1
      · refine ih nd'.2 z ?_ y
        unfold getE at e ⊢
        rw [List.find?_cons_of_neg (by
          rw [decide_eq_false]; exact Bool.false_ne_true
          intro q
          exact nd'.1 (List.mem_map.mpr ⟨_, z, q.symm⟩))] at e
        exact e
theorem putE_keys {M : List (State × α)} {k : State} {v : α} : (putE M k v).map (·.1) = if k ∈ M.map (·.1) then M.map (·.1) else M.map (·.1) ++ [k] := by
  unfold putE
  by_cases h : (getE M k).isSome = true
  · rw [if_pos h, if_pos (getE_isSome.mp h), List.map_map]
    refine List.map_congr_left fun e _ => ?_
    show (if e.1 = k then (e.1, v) else e).1 = e.1
    split <;> rfl
  · rw [if_neg h, if_neg fun z => h (getE_isSome.mpr z), List.map_append]; rfl
theorem putE_nodup {M : List (State × α)} {k : State} {v : α} (nd : (M.map (·.1)).Nodup) : ((putE M k v).map (·.1)).Nodup := by
  rw [putE_keys]
  split
  · exact nd
  · rename_i h
    refine List.nodup_append.mpr ⟨nd, List.nodup_cons.mpr ⟨List.not_mem_nil, List.nodup_nil⟩, fun a ha b hb => ?_⟩
    rw [List.mem_singleton.mp hb]
    exact fun z => h (z ▸ ha)
theorem putE_mem {M : List (State × α)} (nd : (M.map (·.1)).Nodup) {k : State} {v : α} (e : State × α) : e ∈ putE M k v ↔ (e.1 ≠ k ∧ e ∈ M) ∨ e = (k, v) := by
  unfold putE
  by_cases h : (getE M k).isSome = true
  · rw [if_pos h, List.mem_map]
    constructor
    · rintro ⟨x, hx, rfl⟩
      by_cases c : x.1 = k
      · rw [if_pos c, c]; exact .inr rfl
      · rw [if_neg c]; exact .inl ⟨c, hx⟩
    · rintro (⟨c, hx⟩ | rfl)
      · exact ⟨e, hx, if_neg c⟩
      · obtain ⟨x, hx, ex⟩ := List.mem_map.mp (getE_isSome.mp h)
        exact ⟨x, hx, by rw [if_pos ex, ex]⟩
  · rw [if_neg h, List.mem_append, List.mem_singleton]
    constructor
    · rintro (z | z)
      · exact .inl ⟨fun y => h (getE_isSome.mpr (List.mem_map.mpr ⟨e, z, y⟩)), z⟩
      · exact .inr z
    · rintro (⟨_, z⟩ | z)
      · exact .inl z
      · exact .inr z
/-- as the layer tells such dicts -/
def kS (x : State) : NestedKey := .tup [.num x.1, .tup (x.2.map .num)]
theorem datas_nums : ∀ l : List Int, NestedKey.datas (l.map .num) = l.map .int
  | [] => by simp [NestedKey.datas]
  | x :: r => by
    show NestedKey.datas (.num x :: r.map .num) = _
    rw [NestedKey.datas, datas_nums r, NestedKey.data]; rfl
theorem kS_data (x : State) : (kS x).data = stateD x := by
  unfold kS stateD handD
  rw [NestedKey.data, NestedKey.datas, NestedKey.datas, NestedKey.datas, NestedKey.data, NestedKey.data, datas_nums]
theorem kS_inj {x y : State} (h : kS x = kS y) : x = y := state_inj (by rw [← kS_data, ← kS_data, h])
theorem depths_nums : ∀ l : List Int, NestedKey.depthAll (l.map .num) = 0
  | [] => by simp [NestedKey.depthAll]
  | x :: r => by
    show NestedKey.depthAll (.num x :: r.map .num) = 0
    rw [NestedKey.depthAll, depths_nums r, NestedKey.depth]; rfl
theorem kS_key (x : State) : IsKey (kS x) := by
  refine ⟨?_, _, kS_data x⟩
  unfold kS
  rw [NestedKey.depth, NestedKey.depthAll, NestedKey.depthAll, NestedKey.depthAll, NestedKey.depth, NestedKey.depth, depths_nums]
  decide
def kvsE (f : α → PyData) (M : List (State × α)) : List Kv := M.map fun e => (kS e.1, f e.2)
theorem atP_E (f : α → PyData) (M : List (State × α)) (k : State) : atP (kvsE f M) (kS k) = (getE M k).map f := by
  unfold atP kvsE getE
  rw [List.find?_map]
  have e : ((fun p : Kv => decide (p.1 = kS k)) ∘ fun e : State × α => (kS e.1, f e.2)) = fun e => decide (e.1 = k) := by
    funext e
    exact decide_eq_decide.mpr ⟨kS_inj, congrArg kS⟩
  rw [e, Option.map_map, Option.map_map]; rfl
theorem putP_E (f : α → PyData) (M : List (State × α)) (k : State) (v : α) : putP (kvsE f M) (kS k) (f v) = kvsE f (putE M k v) := by
  unfold putP putE
  rw [atP_E, Option.isSome_map]
  split
  · unfold kvsE
    rw [List.map_map, List.map_map]
    refine List.map_congr_left fun e _ => ?_
    show (if kS e.1 = kS k then (kS e.1, f v) else (kS e.1, f e.2)) = (kS (if e.1 = k then (e.1, v) else e).1, f (if e.1 = k then (e.1, v) else e).2)
    by_cases c : e.1 = k
    · rw [if_pos c, if_pos (congrArg kS c)]
    · rw [if_neg c, if_neg fun z => c (kS_inj z)]
  · unfold kvsE
    rw [List.map_append]; rfl
theorem keys_E (f : α → PyData) (M : List (State × α)) : (kvsE f M).map (·.1) = (M.map (·.1)).map kS := by
  unfold kvsE
  rw [List.map_map, List.map_map]; rfl
theorem len_E (f : α → PyData) (M : List (State × α)) : (kvsE f M).length = M.length := List.length_map _
end
/-! the law's going through all states -/
def minL (a b : List Int) : List Int := if b < a then b else a
def addM (n : Int) (M : List Ent2) (c : Ent2) : List Ent2 := putE M c.1 (minL ((getE M c.1).getD [n]) c.2)
def moreF (n : Int) (cs : List Ent2) : List Ent2 := cs.foldl (addM n) []
def candL (m : Maze) (seen : List State) (N : List Ent2) : List Ent2 := N.flatMap fun e => ((stepsS m e.1).filter fun o => !decide (o ∈ seen)).map fun t => (t, e.2 ++ [t.1])
theorem moreF_snoc (n : Int) (cs : List Ent2) (c : Ent2) : moreF n (cs ++ [c]) = addM n (moreF n cs) c := by
  unfold moreF; rw [List.foldl_append]; rfl
theorem moreF_nodup (n : Int) (cs : List Ent2) : ((moreF n cs).map (·.1)).Nodup := by
  refine snoc_ind (P := fun cs => ((moreF n cs).map (·.1)).Nodup) List.nodup_nil (fun cs c ih => ?_) cs
  rw [moreF_snoc]; exact putE_nodup ih
theorem minL_le (a b : List Int) : minL a b ≤ a ∧ minL a b ≤ b := by
  unfold minL
  split
  · exact ⟨ll_of_lt ‹_›, List.le_refl _⟩
  · exact ⟨List.le_refl _, List.not_lt.mp ‹_›⟩
theorem minL_or (a b : List Int) : minL a b = a ∨ minL a b = b := by unfold minL; split <;> simp
theorem moreF_mem {n : Int} (cs : List Ent2) (small : ∀ c ∈ cs, c.2 < [n]) : ∀ e : Ent2, e ∈ moreF n cs ↔ e ∈ cs ∧ ∀ v, (e.1, v) ∈ cs → e.2 ≤ v := by
  revert small
  refine snoc_ind (P := fun cs => (∀ c ∈ cs, c.2 < [n]) → ∀ e : Ent2, e ∈ moreF n cs ↔ e ∈ cs ∧ ∀ v, (e.1, v) ∈ cs → e.2 ≤ v) (fun _ e => by simp [moreF]) (fun cs c ih small e => ?_) cs
  have ih := ih fun x hx => small x (List.mem_append.mpr (.inl hx))
  have hc := small c (List.mem_append.mpr (.inr (List.mem_singleton.mpr rfl)))
  have nd := moreF_nodup n cs
  have hv : ∀ v, (c.1, v) ∈ cs ++ [c] ↔ (c.1, v) ∈ cs ∨ v = c.2 := fun v => by
    rw [List.mem_append, List.mem_singleton]
    exact or_congr_right ⟨fun z => by rw [← z], fun z => by rw [z]⟩
  rw [moreF_snoc]
  unfold addM
  rw [putE_mem nd]
  by_cases k : e.1 = c.1
  · have key : (e ∈ cs ++ [c] ∧ ∀ v, (e.1, v) ∈ cs ++ [c] → e.2 ≤ v) ↔ ((c.1, e.2) ∈ cs ∨ e.2 = c.2) ∧ (∀ v, (c.1, v) ∈ cs → e.2 ≤ v) ∧ e.2 ≤ c.2 := by
      have ee : e = (c.1, e.2) := by rw [← k]
      rw [← hv, ← ee, k]
      refine and_congr_right fun _ => ⟨fun z => ⟨fun v y => z v ((hv v).mpr (.inl y)), z _ ((hv _).mpr (.inr rfl))⟩, fun z v y => ?_⟩
      rcases (hv v).mp y with y | y
      · exact z.1 v y
      · rw [y]; exact z.2
    rw [key]
    have left : (e.1 ≠ c.1 ∧ e ∈ moreF n cs ∨ e = (c.1, minL ((getE (moreF n cs) c.1).getD [n]) c.2)) ↔ e.2 = minL ((getE (moreF n cs) c.1).getD [n]) c.2 :=
      ⟨fun z => z.elim (fun z => absurd k z.1) fun z => by rw [z], fun z => .inr (Prod.ext k z)⟩
    rw [left]
    cases eg : getE (moreF n cs) c.1 with
    | none =>
      have no : ∀ v, (c.1, v) ∉ cs := fun v y => by
        have hne : c.1 ∈ (moreF n cs).map (·.1) := by
          -- some least one stands
          have ex : ∃ u, (c.1, u) ∈ cs ∧ ∀ v, (c.1, v) ∈ cs → u ≤ v := by
            have lst : ∀ (l : List Ent2), (∃ v, (c.1, v) ∈ l) → ∃ u, (c.1, u) ∈ l ∧ ∀ v, (c.1, v) ∈ l → u ≤ v := by
              intro l
              induction l with
              | nil => rintro ⟨v, hv⟩; cases hv
              | cons p t ih2 =>
                rintro ⟨v, hv⟩
                by_cases ht : ∃ v, (c.1, v) ∈ t
                · obtain ⟨u, u1, u2⟩ := ih2 ht
                  by_cases hp : p.1 = c.1
                  · rcases ll_total u p.2 with z | z
                    · refine ⟨u, List.mem_cons_of_mem _ u1, fun v hv => ?_⟩
                      rcases List.mem_cons.mp hv with y | y
                      · rw [← y] at z; exact z
                      · exact u2 v y
                    · refine ⟨p.2, List.mem_cons.mpr (.inl (by rw [← hp])), fun v hv => ?_⟩
                      rcases List.mem_cons.mp hv with y | y
                      · rw [← y]; exact List.le_refl _
                      · exact ll_trans z (u2 v y)
                  · refine ⟨u, List.mem_cons_of_mem _ u1, fun v hv => ?_⟩
                    rcases List.mem_cons.mp hv with y | y
                    · exact absurd (by rw [← y]) hp
                    · exact u2 v y
                · rcases List.mem_cons.mp hv with y | y
                  · refine ⟨v, hv, fun v' hv' => ?_⟩
                    rcases List.mem_cons.mp hv' with y' | y'
                    · rw [← y] at y'; rw [(Prod.mk.inj y').2]; exact List.le_refl _
                    · exact absurd ⟨v', y'⟩ ht
                  · exact absurd ⟨v, y⟩ ht
            exact lst cs ⟨v, y⟩
          obtain ⟨u, u1, u2⟩ := ex
          exact List.mem_map.mpr ⟨(c.1, u), (ih (c.1, u)).mpr ⟨u1, u2⟩, rfl⟩
        exact absurd hne (getE_none.mp eg)
      have em : minL (Option.none.getD [n]) c.2 = c.2 := if_pos hc
      rw [em]
      exact ⟨fun z => ⟨.inr z, fun v y => absurd y (no v), by rw [z]; exact List.le_refl _⟩, fun z => z.1.elim (fun y => absurd y (no _)) id⟩
    | some u =>
      have hu := (ih (c.1, u)).mp (getE_some eg)
      show e.2 = minL u c.2 ↔ _
      obtain ⟨m1, m2⟩ := minL_le u c.2
      constructor
      · intro z
        refine ⟨?_, fun v y => ?_, by rw [z]; exact m2⟩
        · rcases minL_or u c.2 with y | y
          · exact .inl (by rw [z, y]; exact hu.1)
          · exact .inr (by rw [z, y])
        · rw [z]; exact ll_trans m1 (hu.2 v y)
      · rintro ⟨z1, z2, z3⟩
        refine ll_anti ?_ ?_
        · rcases minL_or u c.2 with y | y
          · rw [y]; exact z2 u hu.1
          · rw [y]; exact z3
        · rcases z1 with z | z
          · exact ll_trans m1 (hu.2 _ z)
          · rw [z]; exact m2
  · have n1 : e ≠ (c.1, minL ((getE (moreF n cs) c.1).getD [n]) c.2) := fun z => k (by rw [z])
    have n2 : e ≠ c := fun z => k (by rw [z])
    have hx : ∀ v, (e.1, v) ∈ cs ++ [c] ↔ (e.1, v) ∈ cs := fun v => by
      rw [List.mem_append, List.mem_singleton]
      exact ⟨fun z => z.elim id fun z => absurd (by rw [← z]) k, .inl⟩
    have hy : e ∈ cs ++ [c] ↔ e ∈ cs := by
      rw [List.mem_append, List.mem_singleton]
      exact ⟨fun z => z.elim id fun z => absurd z n2, .inl⟩
    rw [hy]
    constructor
    · rintro (z | z)
      · obtain ⟨a, b⟩ := (ih e).mp z.2
        exact ⟨a, fun v y => b v ((hx v).mp y)⟩
      · exact absurd z n1
    · rintro ⟨a, b⟩
      exact .inl ⟨k, (ih e).mpr ⟨a, fun v y => b v ((hx v).mpr y)⟩⟩

/-! the law's turns are the layers -/
def seenAdd (S : List (State × Bool)) (N : List Ent2) : List (State × Bool) := N.foldl (fun S e => putE S e.1 true) S
def lawT (m : Maze) (n s : Int) : Nat → List (State × Bool) × List Ent2
  | 0 => ([], [(st0 m s, [s])])
  | t + 1 => (seenAdd (lawT m n s t).1 (lawT m n s t).2, moreF n (candL m ((seenAdd (lawT m n s t).1 (lawT m n s t).2).map (·.1)) (lawT m n s t).2))
theorem seenAdd_ok (N : List Ent2) : ∀ (S : List (State × Bool)), (S.map (·.1)).Nodup → ((seenAdd S N).map (·.1)).Nodup ∧ ∀ x, x ∈ (seenAdd S N).map (·.1) ↔ x ∈ S.map (·.1) ∨ x ∈ N.map (·.1) := by
  induction N with
  | nil => exact fun S nd => ⟨nd, fun x => by simp [seenAdd]⟩
  | cons e t ih =>
    intro S nd
    obtain ⟨h1, h2⟩ := ih (putE S e.1 true) (putE_nodup nd)
    refine ⟨h1, fun x => (h2 x).trans ?_⟩
    rw [putE_keys, List.map_cons, List.mem_cons]
    split
    · rename_i h
      exact ⟨fun z => z.elim .inl fun z => .inr (.inr z), fun z => z.elim .inl fun z => z.elim (fun z => .inl (z ▸ h)) .inr⟩
    · rw [List.mem_append, List.mem_singleton, or_assoc]
theorem head_small {s n : Int} (h : s < n) {w : List Int} (e : w.head? = some s) : w < [n] := by
  cases w with
  | nil => cases e
  | cons a t =>
    obtain rfl : a = s := Option.some.inj e
    rw [List.cons_lt_cons_iff]
    exact .inl h
theorem law_lay {m : Maze} {n s : Int} (hs : s < n) : ∀ t, (((lawT m n s t).1.map (·.1)).Nodup ∧ ∀ x, x ∈ (lawT m n s t).1.map (·.1) ↔ x ∈ (layP m s t).1.map (·.1)) ∧ ((lawT m n s t).2.map (·.1)).Nodup ∧ ∀ e, e ∈ (lawT m n s t).2 ↔ e ∈ (layP m s t).2
  | 0 => ⟨⟨List.nodup_nil, fun x => Iff.rfl⟩, List.nodup_cons.mpr ⟨List.not_mem_nil, List.nodup_nil⟩, fun e => Iff.rfl⟩
  | t + 1 => by
    obtain ⟨⟨i1, i2⟩, i3, i4⟩ := law_lay hs t
    obtain ⟨s1, s2⟩ := seenAdd_ok (lawT m n s t).2 (lawT m n s t).1 i1
    have ok := layOk m s t
    have keys : ∀ x, x ∈ (seenAdd (lawT m n s t).1 (lawT m n s t).2).map (·.1) ↔ x ∈ ((layP m s t).1 ++ (layP m s t).2).map (·.1) := fun x => by
      rw [s2, i2, List.map_append, List.mem_append]
      refine or_congr_right ?_
      rw [List.mem_map, List.mem_map]
      exact exists_congr fun e => and_congr_left fun _ => i4 e
    refine ⟨⟨s1, keys⟩, moreF_nodup _ _, fun e => ?_⟩
    have cm : ∀ c, c ∈ candL m ((seenAdd (lawT m n s t).1 (lawT m n s t).2).map (·.1)) (lawT m n s t).2 ↔ c.1 ∉ ((layP m s t).1 ++ (layP m s t).2).map (·.1) ∧ c ∈ candP m (layP m s t).2 := fun c => by
      unfold candL
      rw [List.mem_flatMap, candP_mem]
      constructor
      · rintro ⟨x, hx, hc⟩
        obtain ⟨o, ho, rfl⟩ := List.mem_map.mp hc
        obtain ⟨ho1, ho2⟩ := List.mem_filter.mp ho
        refine ⟨fun z => ?_, x, (i4 x).mp hx, ho1, rfl⟩
        rw [Bool.not_eq_true', decide_eq_false_iff_not] at ho2
        exact ho2 ((keys _).mpr z)
      · rintro ⟨z, x, hx, h1, h2⟩
        refine ⟨x, (i4 x).mpr hx, List.mem_map.mpr ⟨c.1, List.mem_filter.mpr ⟨h1, ?_⟩, by rw [← h2]⟩⟩
        rw [Bool.not_eq_true', decide_eq_false_iff_not]
        exact fun y => z ((keys _).mp y)
    show e ∈ moreF n _ ↔ _
    rw [moreF_mem _ fun c hc => head_small hs (cand_ok ok ((cm c).mp hc).2).2.1, lay_mem, cm]
    constructor
    · rintro ⟨⟨a, b⟩, d⟩
      exact ⟨a, b, fun v hv => d v ((cm _).mpr ⟨a, hv⟩)⟩
    · rintro ⟨a, b, d⟩
      exact ⟨⟨a, b⟩, fun v hv => d v ((cm _).mp hv).2⟩
/-! the program's row of states -/
def addC (Q : List Ent2) (c : Ent2) : List Ent2 := if c.1 ∈ Q.map (·.1) then Q else Q ++ [c]
def candsQ (m : Maze) (e : Ent2) : List Ent2 := (sortS (stepsS m e.1)).map fun t => (t, e.2 ++ [t.1])
def expandQ (m : Maze) (Q : List Ent2) (e : Ent2) : List Ent2 := (candsQ m e).foldl addC Q
def runQ (m : Maze) (s : Int) : Nat → List Ent2
  | 0 => [(st0 m s, [s])]
  | i + 1 => match (runQ m s i)[i]? with
    | some e => expandQ m (runQ m s i) e
    | none => runQ m s i
theorem fold_prev (P : List Ent2) : ∀ (cs E : List Ent2), cs.foldl addC (P ++ E) = P ++ cs.foldl (addE (P.map (·.1))) E
  | [], E => rfl
  | c :: t, E => by
    rw [List.foldl_cons, List.foldl_cons]
    have e : addC (P ++ E) c = P ++ addE (P.map (·.1)) E c := by
      have iff : c.1 ∈ (P ++ E).map (·.1) ↔ c.1 ∈ P.map (·.1) ∨ c.1 ∈ E.map (·.1) := by rw [List.map_append, List.mem_append]
      unfold addC addE
      by_cases h : c.1 ∈ (P ++ E).map (·.1)
      · rw [if_pos h, if_pos (iff.mp h)]
      · rw [if_neg h, if_neg fun z => h (iff.mpr z), List.append_assoc]
    rw [e]
    exact fold_prev P t _
theorem run_mid {m : Maze} {s : Int} {P L : List Ent2} (h : runQ m s P.length = P ++ L) : ∀ j, j ≤ L.length → runQ m s (P.length + j) = P ++ L ++ growE ((P ++ L).map (·.1)) (candP m (L.take j))
  | 0, _ => by
    rw [Nat.add_zero, h, List.take_zero]
    show P ++ L = P ++ L ++ []
    rw [List.append_nil]
  | j + 1, hj => by
    have ih := run_mid h j (by omega)
    have hlt : j < L.length := by omega
    have ej : L[j]? = some L[j] := List.getElem?_eq_getElem hlt
    have eq : (runQ m s (P.length + j))[P.length + j]? = some L[j] := by
      rw [ih, List.append_assoc, List.getElem?_append_right (by omega), Nat.add_sub_cancel_left, List.getElem?_append_left hlt, ej]
    have e1 : runQ m s (P.length + (j + 1)) = expandQ m (runQ m s (P.length + j)) L[j] := by
      show (match (runQ m s (P.length + j))[P.length + j]? with | some e => expandQ m (runQ m s (P.length + j)) e | none => runQ m s (P.length + j)) = _
      rw [eq]
    have e2 : candP m (L.take (j + 1)) = candP m (L.take j) ++ candsQ m L[j] := by
      unfold candP
      rw [List.take_succ_eq_append_getElem hlt, List.flatMap_append]
      show _ ++ List.flatMap _ [L[j]] = _
      rw [List.flatMap_cons, List.flatMap_nil, List.append_nil]; rfl
    rw [e1, ih, e2]
    unfold expandQ growE
    rw [fold_prev, List.foldl_append]
theorem run_lay (m : Maze) (s : Int) : ∀ k, runQ m s (layP m s k).1.length = (layP m s k).1 ++ (layP m s k).2
  | 0 => rfl
  | k + 1 => by
    have h := run_mid (run_lay m s k) (layP m s k).2.length (Nat.le_refl _)
    rw [List.take_length] at h
    show runQ m s ((layP m s k).1 ++ (layP m s k).2).length = _
    rw [List.length_append, h]; rfl
theorem run_at (m : Maze) (s : Int) : ∀ t i, i < ((layP m s t).1 ++ (layP m s t).2).length → (runQ m s i)[i]? = ((layP m s t).1 ++ (layP m s t).2)[i]?
  | 0, i, h => by
    have : i = 0 := by
      have h' : i < 1 := h
      omega
    subst this; rfl
  | t + 1, i, h => by
    by_cases c : i < (layP m s (t + 1)).1.length
    · rw [List.getElem?_append_left c]
      exact run_at m s t i c
    · have hm := run_mid (run_lay m s (t + 1)) (i - (layP m s (t + 1)).1.length) (by rw [List.length_append] at h; omega)
      have e : (layP m s (t + 1)).1.length + (i - (layP m s (t + 1)).1.length) = i := by omega
      rw [e] at hm
      rw [hm, List.getElem?_append_left h]
/-! what can be come to by steps -/
inductive Reach (m : Maze) (a : State) : State → Prop where
  | refl : Reach m a a
  | step {b c : State} : Reach m a b → c ∈ stepsS m b → Reach m a c
theorem Reach.trans {m : Maze} {a b c : State} (h : Reach m a b) (k : Reach m b c) : Reach m a c := by
  induction k with
  | refl => exact h
  | step _ hc ih => exact ih.step hc
theorem taken_mem {ks : List Key2} {r k : Int} {h : List Int} : k ∈ taken ks r h ↔ k ∈ h ∨ (r, k) ∈ ks := by
  unfold taken keysIn
  rw [rise_mem, List.mem_append, rise_mem, List.mem_map]
  refine or_congr_right ⟨?_, fun z => ⟨(r, k), List.mem_filter.mpr ⟨z, decide_eq_true rfl⟩, rfl⟩⟩
  rintro ⟨⟨a, b⟩, h1, rfl⟩
  obtain ⟨h2, h3⟩ := List.mem_filter.mp h1
  have : a = r := of_decide_eq_true h3
  rw [← this]; exact h2
theorem among_mem {ks : List Key2} {k : Int} {rs : List Int} : k ∈ keysAmong ks rs ↔ ∃ r ∈ rs, (r, k) ∈ ks := by
  unfold keysAmong
  rw [rise_mem, List.mem_map]
  constructor
  · rintro ⟨⟨a, b⟩, h1, rfl⟩
    obtain ⟨h2, h3⟩ := List.mem_filter.mp h1
    exact ⟨a, of_decide_eq_true h3, h2⟩
  · rintro ⟨r, h1, h2⟩
    exact ⟨(r, k), List.mem_filter.mpr ⟨h2, decide_eq_true h1⟩, rfl⟩
theorem opens_more {l : Option Int} {h h' : List Int} (o : opensF l h = true) (k : ∀ x ∈ h, x ∈ h') : opensF l h' = true := by
  cases l with
  | none => rfl
  | some x => exact decide_eq_true (k x (of_decide_eq_true o))
theorem step_mem {m : Maze} {x t : State} : t ∈ stepsS m x ↔ ∃ d ∈ m.ds, viaF x.1 x.2 d = true ∧ t = toF m.ks x.1 x.2 d := by
  unfold stepsS stepsF
  rw [List.mem_map]
  constructor
  · rintro ⟨d, h, rfl⟩
    obtain ⟨h1, h2⟩ := List.mem_filter.mp h
    exact ⟨d, h1, h2, rfl⟩
  · rintro ⟨d, h1, h2, rfl⟩
    exact ⟨d, List.mem_filter.mpr ⟨h1, h2⟩, rfl⟩
/-- nothing leads out of what cannot grow -/
theorem reach_in {m : Maze} {C : List Int} (hC : nextR m C = none) {a : State} (h1 : a.1 ∈ C) (h2 : ∀ k ∈ a.2, k ∈ keysAmong m.ks C) {x : State} (r : Reach m a x) : x.1 ∈ C ∧ ∀ k ∈ x.2, k ∈ keysAmong m.ks C := by
  induction r with
  | refl => exact ⟨h1, h2⟩
  | @step b c _ hc ih =>
    obtain ⟨d, hd, hv, rfl⟩ := step_mem.mp hc
    obtain ⟨i1, i2⟩ := ih
    unfold viaF at hv
    rw [Bool.and_eq_true, decide_eq_true_eq] at hv
    have ho : opensIn m.ks C d.2.2 = true := by rw [← opens_among]; exact opens_more hv.2 i2
    have hne : goesOn m.ks C d = false := by
      unfold nextR at hC
      rw [Option.map_eq_none_iff, List.find?_eq_none] at hC
      exact Bool.eq_false_iff.mpr (hC d hd)
    have one : oneEnd C d = false := by
      unfold goesOn at hne
      rw [ho, Bool.and_true] at hne; exact hne
    have same : (d.1 ∈ C ↔ d.2.1 ∈ C) := by
      unfold oneEnd at one
      rw [Bool.not_eq_false', decide_eq_true_eq] at one
      exact decide_eq_decide.mp one
    have hin : otherF d b.1 ∈ C := by
      unfold otherF
      split
      · rename_i e; exact same.mp (by rw [e]; exact i1)
      · rename_i e
        rcases hv.1 with z | z
        · exact absurd z.symm e
        · exact same.mpr (by rw [← z]; exact i1)
    refine ⟨hin, fun k hk => ?_⟩
    have hk' : k ∈ taken m.ks (otherF d b.1) b.2 := hk
    rcases taken_mem.mp hk' with z | z
    · exact i2 k z
    · exact among_mem.mpr ⟨_, hin, z⟩
/-- rooms that lie together -/
def Conn (m : Maze) (rs : List Int) : Prop := ∀ u ∈ rs, ∀ r ∈ rs, ∀ h : List Int, (∀ k ∈ keysAmong m.ks rs, k ∈ h) → ∃ h' : List Int, Reach m (u, h) (r, h') ∧ ∀ k ∈ h, k ∈ h'
def Got (m : Maze) (s : Int) (rs : List Int) : Prop := ∃ r0 ∈ rs, ∃ h : List Int, Reach m (st0 m s) (r0, h) ∧ ∀ k ∈ keysAmong m.ks rs, k ∈ h
theorem conn_next {m : Maze} {s : Int} {rs : List Int} {x : Int} (hc : Conn m rs) (hg : Got m s rs) (hx : nextR m rs = some x) : Conn m (rs ++ [x]) ∧ Got m s (rs ++ [x]) := by
  unfold nextR at hx
  cases e : m.ds.find? (goesOn m.ks rs) with
  | none => rw [e] at hx; cases hx
  | some d =>
    rw [e] at hx
    obtain rfl := Option.some.inj hx
    have hd := List.mem_of_find?_eq_some e
    have hgo := List.find?_some e
    unfold goesOn at hgo
    rw [Bool.and_eq_true, ← opens_among] at hgo
    obtain ⟨one, op⟩ := hgo
    have new := farEnd_new one
    -- the end that is among them
    obtain ⟨u0, hu0, g1, g2⟩ : ∃ u0 ∈ rs, (∀ h, (∀ k ∈ keysAmong m.ks rs, k ∈ h) → (farEnd rs d, taken m.ks (farEnd rs d) h) ∈ stepsS m (u0, h)) ∧ ∀ h, (∀ k ∈ keysAmong m.ks rs, k ∈ h) → (u0, taken m.ks u0 h) ∈ stepsS m (farEnd rs d, h) := by
      unfold oneEnd at one
      rw [Bool.not_eq_true', decide_eq_false_iff_not] at one
      by_cases c : d.1 ∈ rs
      · have c2 : d.2.1 ∉ rs := fun z => one (by rw [decide_eq_true c, decide_eq_true z])
        have ne : d.1 ≠ d.2.1 := fun z => c2 (z ▸ c)
        have ef : farEnd rs d = d.2.1 := if_pos c
        refine ⟨d.1, c, fun h hh => step_mem.mpr ⟨d, hd, ?_, ?_⟩, fun h hh => step_mem.mpr ⟨d, hd, ?_, ?_⟩⟩
        · unfold viaF; rw [decide_eq_true (.inl rfl), opens_more op hh]; rfl
        · have o : otherF d d.1 = d.2.1 := if_pos rfl
          unfold toF; rw [ef, o]
        · unfold viaF; rw [ef, decide_eq_true (.inr rfl), opens_more op hh]; rfl
        · have o : otherF d d.2.1 = d.1 := if_neg ne
          unfold toF; rw [ef, o]
      · have c2 : d.2.1 ∈ rs := Classical.byContradiction fun z => one (by rw [decide_eq_false c, decide_eq_false z])
        have ne : d.1 ≠ d.2.1 := fun z => c (z ▸ c2)
        have ef : farEnd rs d = d.1 := if_neg c
        refine ⟨d.2.1, c2, fun h hh => step_mem.mpr ⟨d, hd, ?_, ?_⟩, fun h hh => step_mem.mpr ⟨d, hd, ?_, ?_⟩⟩
        · unfold viaF; rw [decide_eq_true (.inr rfl), opens_more op hh]; rfl
        · have o : otherF d d.2.1 = d.1 := if_neg ne
          unfold toF; rw [ef, o]
        · unfold viaF; rw [ef, decide_eq_true (.inl rfl), opens_more op hh]; rfl
        · have o : otherF d d.1 = d.2.1 := if_pos rfl
          unfold toF; rw [ef, o]
    generalize farEnd rs d = x at g1 g2 new
    have less : ∀ {h : List Int}, (∀ k ∈ keysAmong m.ks (rs ++ [x]), k ∈ h) → ∀ k ∈ keysAmong m.ks rs, k ∈ h := fun hh k hk => by
      obtain ⟨r, h1, h2⟩ := among_mem.mp hk
      exact hh k (among_mem.mpr ⟨r, List.mem_append.mpr (.inl h1), h2⟩)
    have grow : ∀ {r : Int} {h : List Int}, ∀ k ∈ h, k ∈ taken m.ks r h := fun k hk => taken_mem.mpr (.inl hk)
    constructor
    · intro u hu r hr h hh
      have hh' := less hh
      -- to u0
      have toU : ∃ h', Reach m (u, h) (u0, h') ∧ ∀ k ∈ h, k ∈ h' := by
        rcases List.mem_append.mp hu with z | z
        · exact hc u z u0 hu0 h hh'
        · rw [List.mem_singleton.mp z]
          exact ⟨_, Reach.refl.step (g2 h hh'), grow⟩
      obtain ⟨h1, r1, k1⟩ := toU
      have hh1 : ∀ k ∈ keysAmong m.ks rs, k ∈ h1 := fun k hk => k1 k (hh' k hk)
      rcases List.mem_append.mp hr with z | z
      · obtain ⟨h2, r2, k2⟩ := hc u0 hu0 r z h1 hh1
        exact ⟨h2, r1.trans r2, fun k hk => k2 k (k1 k hk)⟩
      · rw [List.mem_singleton.mp z]
        exact ⟨_, r1.step (g1 h1 hh1), fun k hk => grow k (k1 k hk)⟩
    · obtain ⟨r0, hr0, h, r1, k1⟩ := hg
      obtain ⟨h2, r2, k2⟩ := hc r0 hr0 u0 hu0 h k1
      have hh2 : ∀ k ∈ keysAmong m.ks rs, k ∈ h2 := fun k hk => k2 k (k1 k hk)
      refine ⟨x, List.mem_append.mpr (.inr (List.mem_singleton.mpr rfl)), _, (r1.trans r2).step (g1 h2 hh2), fun k hk => ?_⟩
      obtain ⟨r, h3, h4⟩ := among_mem.mp hk
      rcases List.mem_append.mp h3 with z | z
      · exact grow k (hh2 k (among_mem.mpr ⟨r, z, h4⟩))
      · rw [List.mem_singleton.mp z] at h4
        exact taken_mem.mpr (.inr h4)
theorem come_reach {m : Maze} (hm : okMaze m) {s : Int} (hs : inRoom m.n s) {g : Int} : g ∈ comeR m s ↔ ∃ h, Reach m (st0 m s) (g, h) := by
  obtain ⟨c1, c2, ⟨t, c3⟩, c4⟩ := comeR_is hm hs
  constructor
  · intro hg
    have all : ∀ k, 1 ≤ k → k ≤ (comeR m s).length → Conn m ((comeR m s).take k) ∧ Got m s ((comeR m s).take k) := by
      intro k
      induction k with
      | zero => intro z; omega
      | succ k ih =>
        intro _ h2
        by_cases k0 : k = 0
        · subst k0
          have e : (comeR m s).take 1 = [s] := by rw [c3]; rfl
          rw [e]
          refine ⟨fun u hu r hr h hh => ?_, s, List.mem_singleton.mpr rfl, _, Reach.refl, fun k hk => ?_⟩
          · rw [List.mem_singleton.mp hu, List.mem_singleton.mp hr]
            exact ⟨h, Reach.refl, fun _ z => z⟩
          · obtain ⟨r, h1, h2⟩ := among_mem.mp hk
            rw [List.mem_singleton.mp h1] at h2
            exact taken_mem.mpr (.inr h2)
        · obtain ⟨i1, i2⟩ := ih (by omega) (by omega)
          have e := List.take_succ_eq_append_getElem (l := comeR m s) (i := k) (by omega)
          rw [e]
          exact conn_next i1 i2 (c4 k _ (by omega) (List.getElem?_eq_getElem (by omega)))
    have hl : 1 ≤ (comeR m s).length := by rw [c3, List.length_cons]; omega
    obtain ⟨a1, r0, hr0, h, r1, k1⟩ := all (comeR m s).length hl (Nat.le_refl _)
    rw [List.take_length] at a1 hr0 k1
    obtain ⟨h', r2, _⟩ := a1 r0 hr0 g hg h k1
    exact ⟨h', r1.trans r2⟩
  · rintro ⟨h, r⟩
    have hs' : s ∈ comeR m s := by rw [c3]; exact List.mem_cons_self
    exact (reach_in c2 (a := st0 m s) hs' (fun k hk => by
      rcases taken_mem.mp (show k ∈ taken m.ks s [] from hk) with z | z
      · cases z
      · exact among_mem.mpr ⟨s, hs', z⟩) r).1

/-! there is an end -/
def fives : List (List Int) := [false, true].flatMap fun a => [false, true].flatMap fun b => [false, true].flatMap fun c => [false, true].flatMap fun d => [false, true].map fun e => ((List.range 5).filter fun k => [a, b, c, d, e].getD k false).map fun (k : Nat) => (k : Int)
theorem fives_len : fives.length = 32 := by decide
theorem fives_mem {L : List Int} (h : L.Pairwise (· < ·)) (h5 : ∀ x ∈ L, 0 ≤ x ∧ x < 5) : L ∈ fives := by
  have e := five_is (p := fun x => decide (x ∈ L)) (L := L) h fun x => ⟨fun z => ⟨h5 x z, decide_eq_true z⟩, fun z => of_decide_eq_true z.2⟩
  have bm : ∀ b : Bool, b ∈ [false, true] := fun b => by cases b <;> simp
  unfold fives
  refine List.mem_flatMap.mpr ⟨decide ((0 : Int) ∈ L), bm _, List.mem_flatMap.mpr ⟨decide ((1 : Int) ∈ L), bm _, List.mem_flatMap.mpr ⟨decide ((2 : Int) ∈ L), bm _, List.mem_flatMap.mpr ⟨decide ((3 : Int) ∈ L), bm _, List.mem_map.mpr ⟨decide ((4 : Int) ∈ L), bm _, ?_⟩⟩⟩⟩⟩
  refine Eq.trans ?_ e
  refine congrArg (List.map fun (k : Nat) => (k : Int)) (List.filter_congr fun k hk => ?_)
  have hk' := List.mem_range.mp hk
  have : k = 0 ∨ k = 1 ∨ k = 2 ∨ k = 3 ∨ k = 4 := by omega
  rcases this with rfl | rfl | rfl | rfl | rfl <;> rfl
def allStates (n : Int) : List State := (allRooms n).flatMap fun r => fives.map fun h => (r, h)
theorem allStates_len (n : Int) : (allStates n).length = n.toNat * 32 := by
  unfold allStates
  rw [List.length_flatMap]
  have : (allRooms n).map (fun r => (fives.map fun h => (r, h)).length) = (allRooms n).map fun _ => 32 := List.map_congr_left fun r _ => by rw [List.length_map, fives_len]
  rw [this, List.map_const', List.sum_replicate_nat, allRooms_len]
def okState (m : Maze) (x : State) : Prop := inRoom m.n x.1 ∧ x.2.Pairwise (· < ·) ∧ okHeld x.2
theorem okState_all {m : Maze} {x : State} (h : okState m x) : x ∈ allStates m.n := by
  unfold allStates
  exact List.mem_flatMap.mpr ⟨x.1, allRooms_mem.mpr h.1, List.mem_map.mpr ⟨x.2, fives_mem h.2.1 h.2.2.2, rfl⟩⟩
theorem okState_st0 {m : Maze} (hm : okMaze m) {s : Int} (hs : inRoom m.n s) : okState m (st0 m s) := ⟨hs, rise_up _, taken_ok hm.1 ⟨Nat.zero_le _, fun _ z => absurd z List.not_mem_nil⟩⟩
theorem okState_step {m : Maze} (hm : okMaze m) {x t : State} (h : okState m x) (ht : t ∈ stepsS m x) : okState m t := by
  obtain ⟨d, hd, _, rfl⟩ := step_mem.mp ht
  refine ⟨?_, rise_up _, taken_ok hm.1 h.2.2⟩
  show inRoom m.n (otherF d x.1)
  unfold otherF
  split
  · exact (hm.2.2 d hd).2
  · exact (hm.2.2 d hd).1
theorem lay_ok {m : Maze} (hm : okMaze m) {s : Int} (hs : inRoom m.n s) : ∀ k, ∀ e ∈ (layP m s k).1 ++ (layP m s k).2, okState m e.1
  | 0, e, he => by
    have : e ∈ [(st0 m s, [s])] := he
    rw [List.mem_singleton.mp this]
    exact okState_st0 hm hs
  | k + 1, e, he => by
    have ih := lay_ok hm hs k
    rcases List.mem_append.mp he with z | z
    · exact ih e z
    · obtain ⟨x, hx, h1, _⟩ := candP_mem.mp ((growE_sub _ _).subset z)
      exact okState_step hm (ih x (List.mem_append.mpr (.inr hx))) h1
theorem lay_reach {m : Maze} {s : Int} : ∀ k, ∀ e ∈ (layP m s k).1 ++ (layP m s k).2, Reach m (st0 m s) e.1
  | 0, e, he => by
    have : e ∈ [(st0 m s, [s])] := he
    rw [List.mem_singleton.mp this]
    exact Reach.refl
  | k + 1, e, he => by
    have ih := lay_reach (m := m) (s := s) k
    rcases List.mem_append.mp he with z | z
    · exact ih e z
    · obtain ⟨x, hx, h1, _⟩ := candP_mem.mp ((growE_sub _ _).subset z)
      exact (ih x (List.mem_append.mpr (.inr hx))).step h1
theorem lay_closed {m : Maze} {s : Int} : ∀ k, ∀ e ∈ (layP m s k).1, ∀ t ∈ stepsS m e.1, t ∈ ((layP m s k).1 ++ (layP m s k).2).map (·.1)
  | 0, e, he, _, _ => by cases he
  | k + 1, e, he, t, ht => by
    rw [List.map_append, List.mem_append]
    rcases List.mem_append.mp (show e ∈ (layP m s k).1 ++ (layP m s k).2 from he) with z | z
    · exact .inl (lay_closed k e z t ht)
    · by_cases c : t ∈ ((layP m s k).1 ++ (layP m s k).2).map (·.1)
      · exact .inl c
      · refine .inr ((growE_keys _ _ t).mpr ⟨c, List.mem_map.mpr ⟨(t, e.2 ++ [t.1]), candP_mem.mpr ⟨e, z, ht, rfl⟩, rfl⟩⟩)
theorem lay_mono {m : Maze} {s : Int} {j : Nat} : ∀ k, j ≤ k → ∀ e ∈ (layP m s j).1 ++ (layP m s j).2, e ∈ (layP m s k).1 ++ (layP m s k).2
  | 0, h, e, he => by
    obtain rfl : j = 0 := by omega
    exact he
  | k + 1, h, e, he => by
    rcases Nat.lt_or_ge k j with c | c
    · obtain rfl : j = k + 1 := by omega
      exact he
    · exact List.mem_append.mpr (.inl (lay_mono k c e he))
theorem lay_of {m : Maze} {s : Int} : ∀ k, ∀ e ∈ (layP m s k).1, ∃ j < k, e ∈ (layP m s j).2
  | 0, e, he => by cases he
  | k + 1, e, he => by
    rcases List.mem_append.mp (show e ∈ (layP m s k).1 ++ (layP m s k).2 from he) with z | z
    · obtain ⟨j, h1, h2⟩ := lay_of k e z
      exact ⟨j, by omega, h2⟩
    · exact ⟨k, by omega, z⟩
theorem lay_long {m : Maze} {s : Int} : ∀ k, (∀ j < k, (layP m s j).2 ≠ []) → k ≤ (layP m s k).1.length
  | 0, _ => Nat.zero_le _
  | k + 1, h => by
    have ih := lay_long (m := m) (s := s) k fun j hj => h j (by omega)
    show k + 1 ≤ ((layP m s k).1 ++ (layP m s k).2).length
    have := List.length_pos_iff.mpr (h k (by omega))
    rw [List.length_append]; omega
theorem lay_size {m : Maze} (hm : okMaze m) {s : Int} (hs : inRoom m.n s) (k : Nat) : ((layP m s k).1 ++ (layP m s k).2).length ≤ m.n.toNat * 32 := by
  rw [← allStates_len, ← List.length_map (·.1)]
  refine nodup_le (layOk m s k).nd fun x hx => ?_
  obtain ⟨e, he, rfl⟩ := List.mem_map.mp hx
  exact okState_all (lay_ok hm hs k e he)
theorem lay_end {m : Maze} (hm : okMaze m) {s : Int} (hs : inRoom m.n s) : ∃ k ≤ m.n.toNat * 32, (layP m s k).2 = [] := by
  refine Classical.byContradiction fun h => ?_
  have hn : ∀ j, j ≤ m.n.toNat * 32 → (layP m s j).2 ≠ [] := fun j hj z => h ⟨j, hj, z⟩
  have h1 := lay_long (m := m) (s := s) (m.n.toNat * 32 + 1) fun j hj => hn j (by omega)
  have h2 := lay_size hm hs (m.n.toNat * 32)
  have : (layP m s (m.n.toNat * 32 + 1)).1.length ≤ m.n.toNat * 32 := h2
  omega
theorem reach_lay {m : Maze} (hm : okMaze m) {s : Int} (hs : inRoom m.n s) {x : State} (r : Reach m (st0 m s) x) : ∃ j < m.n.toNat * 32, ∃ w, (x, w) ∈ (layP m s j).2 := by
  obtain ⟨k, hk, e⟩ := lay_end hm hs
  have h0 : (st0 m s, [s]) ∈ (layP m s k).1 := by
    have := lay_mono (m := m) (s := s) (j := 0) k (Nat.zero_le _) (st0 m s, [s]) (List.mem_append.mpr (.inr (List.mem_singleton.mpr rfl)))
    rw [e, List.append_nil] at this; exact this
  have all : x ∈ (layP m s k).1.map (·.1) := by
    induction r with
    | refl => exact List.mem_map.mpr ⟨_, h0, rfl⟩
    | step _ hc ih =>
      obtain ⟨y, hy, rfl⟩ := List.mem_map.mp ih
      have := lay_closed k y hy _ hc
      rw [e, List.append_nil] at this; exact this
  obtain ⟨y, hy, rfl⟩ := List.mem_map.mp all
  obtain ⟨j, h1, h2⟩ := lay_of k y hy
  exact ⟨j, by omega, y.2, h2⟩
theorem least_nat {p : Nat → Prop} : ∀ n, p n → ∃ k ≤ n, p k ∧ ∀ j < k, ¬ p j := by
  intro n
  induction n using Nat.strongRecOn with
  | _ n ih =>
    intro h
    by_cases c : ∃ j < n, p j
    · obtain ⟨j, h1, h2⟩ := c
      obtain ⟨k, k1, k2, k3⟩ := ih j h1 h2
      exact ⟨k, by omega, k2, k3⟩
    · exact ⟨n, Nat.le_refl _, h, fun j hj z => c ⟨j, hj, z⟩⟩
/-- the first layer with the goal, if there is one -/
theorem goal_lay {m : Maze} (hm : okMaze m) {s : Int} (hs : inRoom m.n s) {g : Int} (hg : g ∈ comeR m s) : ∃ t < m.n.toNat * 32, (∃ e ∈ (layP m s t).2, e.1.1 = g) ∧ ∀ e ∈ (layP m s t).1, e.1.1 ≠ g := by
  obtain ⟨h, r⟩ := (come_reach hm hs).mp hg
  obtain ⟨j, j1, w, j2⟩ := reach_lay hm hs r
  obtain ⟨t, t1, t2, t3⟩ := least_nat (p := fun t => ∃ e ∈ (layP m s t).2, e.1.1 = g) j ⟨_, j2, rfl⟩
  refine ⟨t, by omega, t2, fun e he z => ?_⟩
  obtain ⟨i, i1, i2⟩ := lay_of t e he
  exact t3 i i1 ⟨e, i2, z⟩
theorem no_goal {m : Maze} (hm : okMaze m) {s : Int} (hs : inRoom m.n s) {g : Int} (hg : g ∉ comeR m s) (t : Nat) : ∀ e ∈ (layP m s t).2, e.1.1 ≠ g := fun e he z => by
  have := lay_reach t e (List.mem_append.mpr (.inr he))
  exact hg ((come_reach hm hs).mpr ⟨e.1.2, by rw [← z]; exact this⟩)

/-! how many states there are -/
theorem few {m : Maze} (h60 : m.n ≤ 60) {Q : List Ent2} (h1 : (Q.map (·.1)).Nodup) (h2 : ∀ e ∈ Q, okState m e.1) : Q.length ≤ 1920 := by
  have : (Q.map (·.1)).length ≤ (allStates m.n).length := nodup_le h1 fun x hx => by
    obtain ⟨e, he, rfl⟩ := List.mem_map.mp hx
    exact okState_all (h2 e he)
  rw [List.length_map, allStates_len] at this
  omega
theorem stateD_alike (a b : State) : PySem.W.alike (stateD a) (stateD b) = true := by
  unfold stateD handD
  rw [PySem.W.alike, PySem.W.alikeAll, PySem.W.alikeAll, PySem.W.alikeAll, PySem.W.alike, PySem.W.alike, PySem.W.alike_ints]; rfl
theorem stateD_tup (a : State) : ∃ x r, stateD a = .tuple (x :: r) := ⟨_, _, rfl⟩
theorem stateD_deep (a : State) : (stateD a).depth ≤ 8 := Nat.le_trans (sh_state a).2 (by decide)
theorem len_states {m : Maze} {x : State} (hd : m.ds.length ≤ 1000) : (stepsS m x).length ≤ 1000 := by
  unfold stepsS stepsF
  rw [List.length_map]
  exact Nat.le_trans (List.length_filter_le _ _) hd
theorem putE_new {α : Type} {Q : List (State × α)} {t : State} {v : α} (h : t ∉ Q.map (·.1)) : putE Q t v = Q ++ [(t, v)] := by
  unfold putE
  rw [if_neg fun z => h (getE_isSome.mp z)]

/-! the least walk -/
def intsD (w : List Int) : PyData := .list (w.map .int)
def IsLeast (m : Maze) (s g : Int) (w : List Int) : Prop := ∃ t, (∃ e ∈ (layP m s t).2, e.1.1 = g ∧ e.2 = w) ∧ (∀ e ∈ (layP m s t).1, e.1.1 ≠ g) ∧ ∀ e ∈ (layP m s t).2, e.1.1 = g → w ≤ e.2
theorem least_one {m : Maze} {s g : Int} {w w' : List Int} (h : IsLeast m s g w) (k : IsLeast m s g w') : w = w' := by
  obtain ⟨t, ⟨e, h1, h2, h3⟩, h4, h5⟩ := h
  obtain ⟨u, ⟨f, k1, k2, k3⟩, k4, k5⟩ := k
  have tu : t = u := by
    rcases Nat.lt_trichotomy t u with z | z | z
    · have := lay_mono (m := m) (s := s) (j := t) (u - 1) (by omega) e (List.mem_append.mpr (.inr h1))
      have e1 : u = u - 1 + 1 := by omega
      have this' : e ∈ (layP m s u).1 := by rw [e1]; exact this
      exact absurd h2 (k4 e this')
    · exact z
    · have := lay_mono (m := m) (s := s) (j := u) (t - 1) (by omega) f (List.mem_append.mpr (.inr k1))
      have e1 : t = t - 1 + 1 := by omega
      have this' : f ∈ (layP m s t).1 := by rw [e1]; exact this
      exact absurd k2 (h4 f this')
  subst tu
  refine ll_anti ?_ ?_
  · rw [← k3]; exact h5 f k1 k2
  · rw [← h3]; exact k5 e h1 h2
/-- where the program stops -/
theorem run_stop {m : Maze} {s g : Int} {w : List Int} (h : IsLeast m s g w) : ∃ N, (∃ x, (runQ m s N)[N]? = some (x, w) ∧ x.1 = g) ∧ ∀ i < N, ∃ e, (runQ m s i)[i]? = some e ∧ e.1.1 ≠ g := by
  obtain ⟨t, ⟨e, h1, h2, h3⟩, h4, h5⟩ := h
  obtain ⟨k, hk⟩ := List.getElem?_of_mem h1
  obtain ⟨j, j1, ⟨f, j2, j3⟩, j4⟩ := least_nat (p := fun j => ∃ f, (layP m s t).2[j]? = some f ∧ f.1.1 = g) k ⟨e, hk, h2⟩
  have jl : j < (layP m s t).2.length := (List.getElem?_eq_some_iff.mp j2).1
  have at' : ∀ i, i < (layP m s t).1.length + (layP m s t).2.length → (runQ m s i)[i]? = ((layP m s t).1 ++ (layP m s t).2)[i]? := fun i hi => run_at m s t i (by rw [List.length_append]; exact hi)
  have fw : f.2 = w := by
    have f1 := List.mem_of_getElem? j2
    refine ll_anti ?_ (h5 f f1 j3)
    rw [← h3]
    by_cases c : j = k
    · subst c; rw [hk] at j2; rw [Option.some.inj j2]; exact List.le_refl _
    · have up := (layOk m s t).up
      have hkl : k < (layP m s t).2.length := (List.getElem?_eq_some_iff.mp hk).1
      have := List.pairwise_iff_getElem.mp up j k jl hkl (by omega)
      rw [(List.getElem?_eq_some_iff.mp j2).2, (List.getElem?_eq_some_iff.mp hk).2] at this
      exact ll_of_lt this
  refine ⟨(layP m s t).1.length + j, ⟨f.1, ?_, j3⟩, fun i hi => ?_⟩
  · rw [at' _ (by omega), List.getElem?_append_right (by omega), Nat.add_sub_cancel_left, j2, ← fw]
  · rw [at' i (by omega)]
    by_cases c : i < (layP m s t).1.length
    · rw [List.getElem?_append_left c, List.getElem?_eq_getElem c]
      exact ⟨_, rfl, h4 _ (List.getElem_mem c)⟩
    · rw [List.getElem?_append_right (by omega)]
      have hl : i - (layP m s t).1.length < (layP m s t).2.length := by omega
      rw [List.getElem?_eq_getElem hl]
      exact ⟨_, rfl, fun z => j4 (i - (layP m s t).1.length) (by omega) ⟨_, List.getElem?_eq_getElem hl, z⟩⟩
theorem fold_ok {m : Maze} {n : Nat} : ∀ (cs Q : List Ent2), (Q.map (·.1)).Nodup → (∀ e ∈ Q, okState m e.1 ∧ e.2.length ≤ n) → (∀ e ∈ cs, okState m e.1 ∧ e.2.length ≤ n) → ((cs.foldl addC Q).map (·.1)).Nodup ∧ ∀ e ∈ cs.foldl addC Q, okState m e.1 ∧ e.2.length ≤ n
  | [], Q, h1, h2, _ => ⟨h1, h2⟩
  | c :: t, Q, h1, h2, h3 => by
    rw [List.foldl_cons]
    have hc := h3 c List.mem_cons_self
    refine fold_ok t (addC Q c) ?_ ?_ fun e he => h3 e (List.mem_cons_of_mem _ he)
    · unfold addC
      split
      · exact h1
      · rename_i h
        rw [List.map_append]
        refine List.nodup_append.mpr ⟨h1, List.nodup_cons.mpr ⟨List.not_mem_nil, List.nodup_nil⟩, fun a ha b hb => ?_⟩
        rw [List.mem_singleton.mp hb]
        exact fun z => h ((show a = c.1 from z) ▸ ha)
    · unfold addC
      split
      · exact h2
      · intro e he
        rcases List.mem_append.mp he with z | z
        · exact h2 e z
        · rw [List.mem_singleton.mp z]; exact hc
theorem run_ok {m : Maze} (hm : okMaze m) {s : Int} (hs : inRoom m.n s) : ∀ i, ((runQ m s i).map (·.1)).Nodup ∧ ∀ e ∈ runQ m s i, okState m e.1 ∧ e.2.length ≤ i + 1
  | 0 => ⟨List.nodup_cons.mpr ⟨List.not_mem_nil, List.nodup_nil⟩, fun e he => by
    rw [List.mem_singleton.mp (show e ∈ [(st0 m s, [s])] from he)]
    exact ⟨okState_st0 hm hs, Nat.le_refl _⟩⟩
  | i + 1 => by
    obtain ⟨i1, i2⟩ := run_ok hm hs i
    cases e : (runQ m s i)[i]? with
    | none =>
      have : runQ m s (i + 1) = runQ m s i := by
        show (match (runQ m s i)[i]? with | some e => expandQ m (runQ m s i) e | none => runQ m s i) = _
        rw [e]
      rw [this]
      exact ⟨i1, fun x hx => ⟨(i2 x hx).1, by have := (i2 x hx).2; omega⟩⟩
    | some x =>
      have : runQ m s (i + 1) = expandQ m (runQ m s i) x := by
        show (match (runQ m s i)[i]? with | some e => expandQ m (runQ m s i) e | none => runQ m s i) = _
        rw [e]
      rw [this]
      obtain ⟨x1, x2⟩ := i2 x (List.mem_of_getElem? e)
      refine fold_ok (candsQ m x) _ i1 (fun y hy => ⟨(i2 y hy).1, by have := (i2 y hy).2; omega⟩) fun c hc => ?_
      obtain ⟨t, ht, rfl⟩ := List.mem_map.mp hc
      exact ⟨okState_step hm x1 (sortS_mem.mp ht), by rw [List.length_append]; exact Nat.succ_le_succ x2⟩
def R_least (ds : List PyData) (xs : List PyData) : Prop := ∃ (m : Maze) (s g : Int) (w : List Int), (okMaze m ∧ inRoom m.n s ∧ m.n ≤ 60 ∧ IsLeast m s g w) ∧ ds = [mazeD m, .int s, .int g] ∧ xs = w.map .int
theorem cleans_map {α : Type} {f : α → PyData} (h : ∀ x, clean (f x) = true) : ∀ l : List α, cleans (l.map f) = true
  | [] => by rw [List.map_nil, cleans]
  | x :: t => by rw [List.map_cons, cleans, h x, cleans_map h t]; rfl
theorem headI_map {α : Type} {f : α → PyData} (h : ∀ x, headI [f x] = false) : ∀ l : List α, headI (l.map f) = false
  | [] => rfl
  | x :: t => by
    have := h x
    rw [List.map_cons]
    revert this
    cases f x <;> first | exact fun _ => rfl | exact fun z => z
theorem clean_door (d : Door) : clean (doorD d) = true := by
  unfold doorD
  rw [clean, cleans, cleans, cleans, cleans]
  cases d.2.2 <;> simp [clean, optD]
theorem clean_key (k : Key2) : clean (keyD k) = true := by
  unfold keyD
  simp [clean, cleans]
theorem clean_doors (L : List Door) : clean (.list (L.map doorD)) = true := by
  rw [clean, cleans_map clean_door, headI_map fun _ => rfl]; rfl
theorem clean_keys (L : List Key2) : clean (.list (L.map keyD)) = true := by
  rw [clean, cleans_map clean_key, headI_map fun _ => rfl]; rfl
theorem clean_maze (m : Maze) : clean (mazeD m) = true := by
  unfold mazeD
  rw [clean, cleans, cleans, cleans, cleans, clean_doors, clean_keys]; simp [clean]

theorem ok_least_walk (T : Txt K mg A) : FnOk P w K mg base (L2.CX P w) 5 A.a_least_walk A.d_least_walk ["maze", "start", "goal"] (spL K R_least) := by
  refine T.f_least_walk.okX sc_least_walk (fun vs H Q E h => ?_) (fun cdv Ar outer s H vs Q E hr h => ?_)
  · obtain ⟨H0, ds, d, sm, dv, ⟨m, s0, g, w, _, rfl, _⟩, _⟩ := h; exact dpa_len dv
  obtain ⟨H0, ds, d, sm, dv, ⟨m, s0, g, w0, ⟨hm, hs, h60, hL⟩, rfl, rfl⟩, q⟩ := h
  refine ⟨_, (pss_cons (ps_set (i := 3) sc_least_walk.nd rfl (.inl rfl) (pe_tup (pa_cons (pv 1) (pa_cons (pe_callS (ok_taken T) (hr.mono (by decide)) rfl T.g_taken T.f_taken.kp (b_taken T) (fun σ => passAt (takes_of rfl rfl rfl rfl) σ) (pa_cons (pv 0) (pa_cons (pv 1) (pa_cons (pe_tup pa_nil) pa_nil)))) pa_nil))))
      (pss_cons (ps_set (i := 4) sc_least_walk.nd rfl (.inl rfl) (pe_lst (pa_cons (pv 3) pa_nil)))
      (pss_cons (ps_set (i := 5) sc_least_walk.nd rfl (.inl rfl) (pe_dispX (u65 hr) (pv 3) (pe_lst (pa_cons (pv 1) pa_nil))))
      (pss_cons (ps_set (i := 6) sc_least_walk.nd rfl (.inl rfl) pe_int)
      (pss_cons (ps_while (passes_of rfl) (pt_cmpR op_ne (pe_ix (r := rIxT K) (by exact ix_tup) (pe_ix (r := rIxL K) (by exact ix_list) (pv 4) (pv 6) (fun _ _ => rfl)) pe_int (fun _ _ => rfl)) (pv 2) (nomark _)) (pss_cons (ps_asg (pe_ix (r := rIxL K) (by exact ix_list) (pv 4) (pv 6) (fun _ _ => rfl)) (pg_tup rfl (pgs_cons (pg_name (i := 7) sc_least_walk.nd rfl (Or.inl rfl)) (pgs_cons (pg_name (i := 8) sc_least_walk.nd rfl (Or.inl rfl)) pgs_nil))))
      (pss_cons (ps_for (passes_of rfl) rfl (pi_list (pe_callB (r := rSortD K) (by exact (cr_sortedD (u65 hr))) (by rfl) T.u_sorted (by decide +kernel) (pa_cons (pe_callS (ok_steps T) (hr.mono (by decide)) rfl T.g_steps T.f_steps.kp (b_steps T) (fun σ => passAt (takes_of rfl rfl rfl rfl) σ) (pa_cons (pv 0) (pa_cons (pv 7) (pa_cons (pv 8) pa_nil)))) pa_nil))) (pg_name (i := 9) sc_least_walk.nd rfl (Or.inl rfl))
        (pss_one (ps_if (pt_cmpR (r := rInX P w K true) (by exact (op_notInX (u65 hr))) (pv 9) (pv 5) (by rfl)) (pss_cons (ps_asg (pe_op op_cat (pe_ix (r := rIxX P w K) (by exact (ix_X (u65 hr))) (pv 5) (pe_ix (r := rIxL K) (by exact ix_list) (pv 4) (pv 6) (fun _ _ => rfl)) (fun _ _ => rfl)) (pe_lst (pa_cons (pe_ix (r := rIxT K) (by exact ix_tup) (pv 9) pe_int (fun _ _ => rfl)) pa_nil))) (pg_sub (pv 5) (pv 9) (set_X (u65 hr))))
      (pss_one (ps_expr (pe_bm PySem.F.plainAttrs_list PySem.F.slot_list_append PySem.F.type_list_append mt_append (pv 4) (pa_cons (pv 9) pa_nil))))) pss_nil)))
      (pss_one (ps_aug (i := 6) sc_least_walk.nd rfl (.inl rfl) pe_int ip_add)))))
      (pss_one (ps_ret (pe_ix (r := rIxX P w K) (by exact (ix_X (u65 hr))) (pv 5) (pe_ix (r := rIxL K) (by exact ix_list) (pv 4) (pv 6) (fun _ _ => rfl)) (fun _ _ => rfl))))))))), ?_⟩
  -- a start without lists of whole numbers
  have dv' := dpa_clean dv (by rw [cleans, cleans, cleans, cleans, clean_maze]; rfl)
  have sm' : Same (noI H0) H := (noI_same H0).trans sm
  obtain ⟨N, ⟨x0, hN, hx0⟩, hne⟩ := run_stop hL
  have wne : w0 ≠ [] := by
    obtain ⟨t, ⟨e, h1, h2, h3⟩, _⟩ := hL
    have := ((layOk m s0 t).wk e h1).1
    rw [h3] at this
    exact fun z => by rw [z] at this; cases this
  refine Pf.run (X := fun cls d _ H => E cls d H) (oc := .rk (w0.map .int)) sm' dv' rfl ?_ (fun p ws G H2 fr g1 g2 => ?_)
  rotate_left
  · have hp : H p = none := by
      cases w0 with
      | nil => exact absurd rfl wne
      | cons i t =>
        cases g2 with
        | cons a b =>
          cases a
          exact new_list fr (fun _ z => z) g1
    have e2 : Same H0 H2 := fun p o z => fr.s p o (fun z => z) (sm p o z)
    refine q p ws H0 H2 ⟨Same.refl _, e2, fr.s, fun _ _ z _ => z, fr.m⟩ hp (sm.free hp) (fr.r _ _ g1) ?_
    rw [dpa_ints g2]; exact dpa_of_ints _
  have ok := run_ok hm hs
  have lenQ : ∀ i, (runQ m s0 i).length ≤ 1920 := fun i => few h60 (ok i).1 fun e he => ((ok i).2 e he).1
  have inv : ∀ i, i ≤ N → N ≤ 1920 := fun i _ => by
    have := (List.getElem?_eq_some_iff.mp hN).1
    have := lenQ N
    omega
  have hN1 := inv 0 (Nat.zero_le _)
  have key : ∀ {env : List SV} {te : TE} {x : State}, Ev K te env (stateD x) → Ev K te env (kS x).data := fun {env te x} h => h.is (kS_data x).symm
  have atS : ∀ {i : Nat} {e : Ent2}, (runQ m s0 i)[i]? = some e → atI ((runQ m s0 i).map fun e => stateD e.1) (i : Int) = some (stateD e.1) := fun {i e} h => atI_nat' (by rw [List.getElem?_map, h]; rfl)
  refine sx_seq (sx_set (d := stateD (st0 m s0)) (ev_tup (ea_cons (ev_var rfl) (ea_cons (ev_callX (ea_cons (ev_var rfl) (ea_cons (ev_var rfl) (ea_cons (ev_tup ea_nil (by decide)) ea_nil))) ⟨m, s0, [], ⟨hm.1, Nat.zero_le _, hs⟩, rfl, rfl⟩) ea_nil)) (Nat.le_of_ble_eq_true rfl))) ?_
  refine sx_seq (sx_setO (xs := (runQ m s0 0).map fun e => stateD e.1) (eo_lst (ea_cons (ev_var rfl) ea_nil) (Nat.le_of_ble_eq_true rfl))) ?_
  refine sx_seq (sx_dispXL (P := P) (w := w) (kS_key (st0 m s0)) (key (ev_var rfl)) (EvO.kn (eo_lst (ds := [.int s0]) (ea_cons (ev_var rfl) ea_nil) (Nat.le_of_ble_eq_true rfl)))) ?_
  refine sx_seq (sx_set (ev_c (d := .int 0) rfl)) ?_
  refine sx_seq (sx_while (n := N) (fun i => [.dat (mazeD m), .dat (.int s0), .dat (.int g), .dat (stateD (st0 m s0)), .own ((runQ m s0 i).map fun e => stateD e.1), .dct P w (kvsE intsD (runQ m s0 i)), .dat (.int i), .no, .no, .no]) rfl (fun i hi => ⟨?_, ?_⟩) ?_) ?_
  · obtain ⟨e, he, hg⟩ := hne i hi
    exact EvT.is (et_test (ev_neI (ev_ixT (ds := [.int e.1.1, handD e.1.2]) (ev_ixO (el_var rfl) (ev_var rfl) (atS he) fun _ _ _ _ => trivial) (ev_c rfl) rfl) (ev_var rfl))) (by rw [decide_eq_false hg]; rfl)
  · obtain ⟨e, he, hg⟩ := hne i hi
    obtain ⟨⟨x, hx⟩, wx⟩ := e
    have ox := ((ok i).2 _ (List.mem_of_getElem? he)).1
    have lx := ((ok i).2 _ (List.mem_of_getElem? he)).2
    have lx' : wx.length ≤ i + 1 := lx
    have e1 : runQ m s0 (i + 1) = expandQ m (runQ m s0 i) ((x, hx), wx) := by
      show (match (runQ m s0 i)[i]? with | some e => expandQ m (runQ m s0 i) e | none => runQ m s0 i) = _
      rw [he]
    refine .inl ?_
    refine sx_seq (sx_asg (d := stateD (x, hx)) (ev_ixO (el_var rfl) (ev_var rfl) (atS he) fun _ _ _ _ => trivial) (tg_tup (ds := [.int x, handD hx]) (tgs_cons tg_name (tgs_cons tg_name tgs_nil)) rfl)) ?_
    have hsort : Ev K (tCB (rSortD K) (tCons (tCallS (spXL K R_steps (B_steps A)) (WE fun cls d _ H => E cls d H) (tCons (tVar 0) (tCons (tVar 7) (tCons (tVar 8) tNil)))) tNil)) [.dat (mazeD m), .dat (.int s0), .dat (.int g), .dat (stateD (st0 m s0)), .own ((runQ m s0 i).map fun e => stateD e.1), .dct P w (kvsE intsD (runQ m s0 i)), .dat (.int i), .dat (.int x), .dat (handD hx), .no] (.list ((sortS (stepsS m (x, hx))).map stateD)) := EvO.ev (eo_sortedD stateD (EvO.l (eo_callX (ea_cons (ev_var rfl) (ea_cons (ev_var rfl) (ea_cons (ev_var rfl) ea_nil))) ⟨m, x, hx, ⟨hm, ox.2.2.1, ox.1⟩, rfl, rfl⟩)) stateD_alike (.inl stateD_tup) (Nat.le_trans (len_states (x := (x, hx)) hm.2.1) (by decide)) stateD_deep)
    refine sx_seq (sx_for (ds := (sortS (stepsS m (x, hx))).map stateD) hsort (fun j => [.dat (mazeD m), .dat (.int s0), .dat (.int g), .dat (stateD (st0 m s0)), .own ((((candsQ m ((x, hx), wx)).take j).foldl addC (runQ m s0 i)).map fun e => stateD e.1), .dct P w (kvsE intsD (((candsQ m ((x, hx), wx)).take j).foldl addC (runQ m s0 i))), .dat (.int i), .dat (.int x), .dat (handD hx), .no]) rfl fun j d hj => ?_) ?_
    · rw [List.getElem?_map] at hj
      cases ej : (sortS (stepsS m (x, hx)))[j]? with
      | none => rw [ej] at hj; cases hj
      | some t =>
        rw [ej] at hj
        obtain rfl := Option.some.inj hj
        refine ⟨_, tg_name, ?_⟩
        have ecj : (candsQ m ((x, hx), wx))[j]? = some (t, wx ++ [t.1]) := by
          show ((sortS (stepsS m (x, hx))).map fun t => (t, wx ++ [t.1]))[j]? = _
          rw [List.getElem?_map, ej]; rfl
        have jl : j < (candsQ m ((x, hx), wx)).length := (List.getElem?_eq_some_iff.mp ecj).1
        have etk : (candsQ m ((x, hx), wx)).take (j + 1) = (candsQ m ((x, hx), wx)).take j ++ [(t, wx ++ [t.1])] := by
          rw [List.take_succ_eq_append_getElem jl, (List.getElem?_eq_some_iff.mp ecj).2]
        have candok : ∀ c ∈ candsQ m ((x, hx), wx), okState m c.1 ∧ c.2.length ≤ i + 2 := fun c hc => by
          obtain ⟨u, hu, rfl⟩ := List.mem_map.mp hc
          exact ⟨okState_step hm ox (sortS_mem.mp hu), by rw [List.length_append]; exact Nat.succ_le_succ lx⟩
        have okj := fold_ok (m := m) (n := i + 2) ((candsQ m ((x, hx), wx)).take j) (runQ m s0 i) (ok i).1 (fun y hy => ⟨((ok i).2 y hy).1, by have := ((ok i).2 y hy).2; omega⟩) fun c hc => candok c (List.mem_of_mem_take hc)
        have pre : (x, hx) ∈ (runQ m s0 i).map (·.1) := List.mem_map.mpr ⟨_, List.mem_of_getElem? he, rfl⟩
        -- what stood still stands
        have stay : ∀ (cs Q : List Ent2) (k : Nat) (y : Ent2), Q[k]? = some y → (cs.foldl addC Q)[k]? = some y := by
          intro cs
          induction cs with
          | nil => exact fun Q k y z => z
          | cons c cs ih =>
            intro Q k y z
            refine ih (addC Q c) k y ?_
            unfold addC
            split
            · exact z
            · rw [List.getElem?_append_left (List.getElem?_eq_some_iff.mp z).1]; exact z
        have hej := stay ((candsQ m ((x, hx), wx)).take j) _ _ _ he
        have lenj : (((candsQ m ((x, hx), wx)).take j).foldl addC (runQ m s0 i)).length ≤ 1920 := few h60 okj.1 fun e h => (okj.2 e h).1
        try dsimp only
        rw [etk, List.foldl_append]
        show Go K _ _ _ [_, _, _, _, .own ((addC (((candsQ m ((x, hx), wx)).take j).foldl addC (runQ m s0 i)) (t, wx ++ [t.1])).map fun e => stateD e.1), .dct P w (kvsE intsD (addC (((candsQ m ((x, hx), wx)).take j).foldl addC (runQ m s0 i)) (t, wx ++ [t.1]))), _, _, _, _]
        generalize ((candsQ m ((x, hx), wx)).take j).foldl addC (runQ m s0 i) = Q at okj hej lenj
        have atQ : atI (Q.map fun e => stateD e.1) (i : Int) = some (stateD (x, hx)) := atI_nat' (by rw [List.getElem?_map, hej]; rfl)
        have test : EvT K _ _ (!decide (t ∈ Q.map (·.1))) := EvT.is (et_test (ev_inX (P := P) (w := w) (neg := true) (kS_key t) (key (ev_var (i := 9) rfl)) (.inl rfl : IsDc P w [.dat (mazeD m), .dat (.int s0), .dat (.int g), .dat (stateD (st0 m s0)), .own (Q.map fun e => stateD e.1), .dct P w (kvsE intsD Q), .dat (.int i), .dat (.int x), .dat (handD hx), .dat (stateD t)] 5 (kvsE intsD Q)))) (by
          show (!(atP (kvsE intsD Q) (kS t)).isSome) = _
          rw [atP_E, Option.isSome_map]
          congr 1
          rw [Bool.eq_iff_iff, decide_eq_true_eq]; exact getE_isSome)
        by_cases c : t ∈ Q.map (·.1)
        · have ea : addC Q (t, wx ++ [t.1]) = Q := if_pos c
          rw [ea]
          rw [decide_eq_true c] at test
          exact go_less (sx_no test sx_next) (by walk_at "less")
        · have ea : addC Q (t, wx ++ [t.1]) = Q ++ [(t, wx ++ [t.1])] := if_neg c
          rw [ea, List.map_append]
          rw [decide_eq_false c] at test
          have ep : putP (kvsE intsD Q) (kS t) (.list ((wx ++ [t.1]).map .int)) = kvsE intsD (Q ++ [(t, wx ++ [t.1])]) := by
            rw [← putE_new c]; exact putP_E intsD Q t (wx ++ [t.1])
          rw [← ep]
          have cat : EvO K (tOp rCat (tOp (rIxX P w K) (tVar 5) (tOp (rIxL K) (tVar 4) (tVar 6))) (tLst (tCons (tOp (rIxT K) (tVar 9) (tC (.int 0))) tNil))) [.dat (mazeD m), .dat (.int s0), .dat (.int g), .dat (stateD (st0 m s0)), .own (Q.map fun e => stateD e.1), .dct P w (kvsE intsD Q), .dat (.int i), .dat (.int x), .dat (handD hx), .dat (stateD t)] ((wx ++ [t.1]).map .int) := (eo_cat (xs := wx.map .int) (ys := [.int t.1]) (ek_ixX (kS_key (x, hx)) (.inl rfl) (key (ev_ixO (el_var rfl) (ev_var rfl) atQ fun _ _ _ _ => trivial)) (by rw [atP_E, getE_of_mem okj.1 (List.mem_of_getElem? hej)]; rfl)).l (EvO.l (eo_lst (ea_cons (ev_ixT (ds := [.int t.1, handD t.2]) (ev_var rfl) (ev_c rfl) rfl) ea_nil) (Nat.le_of_ble_eq_true rfl))) (by rw [List.length_map]; show wx.length + 1 ≤ _; omega)).is (by rw [List.map_append]; rfl)
          refine go_less (sx_yes test (sx_seq (sx_putXL (kS_key t) rfl (EvO.kn cat) (key (ev_var rfl)) (by rw [len_E]; omega)) (sx_app (d := stateD t) rfl (ev_var rfl) (by rw [List.length_map]; omega)))) (by walk_at "less")
    · rw [List.length_map]
      have full : (candsQ m ((x, hx), wx)).take (sortS (stepsS m (x, hx))).length = candsQ m ((x, hx), wx) := List.take_of_length_le (by
        show ((sortS (stepsS m (x, hx))).map _).length ≤ _
        rw [List.length_map]; exact Nat.le_refl _)
      rw [full]
      show Sx K _ _ [_, _, _, _, .own ((expandQ m (runQ m s0 i) ((x, hx), wx)).map fun e => stateD e.1), .dct P w (kvsE intsD (expandQ m (runQ m s0 i) ((x, hx), wx))), _, _, _, _] _
      rw [← e1]
      exact nx_less (sx_augI rfl (ev_c rfl)) (by walk_at "less")
  · refine EvT.is (et_test (ev_neI (ev_ixT (ds := [.int x0.1, handD x0.2]) (ev_ixO (el_var rfl) (ev_var rfl) (atS hN) fun _ _ _ _ => trivial) (ev_c rfl) rfl) (ev_var rfl))) (by rw [decide_eq_true hx0]; rfl)
  · refine sx_retK (ek_ixX (kS_key x0) (.inl rfl) (key (ev_ixO (el_var rfl) (ev_var rfl) (atS hN) fun _ _ _ _ => trivial)) ?_)
    rw [atP_E, getE_of_mem (ok N).1 (List.mem_of_getElem? hN)]; rfl

/-! guide -/
def walkS : Str := Str.ofString "walk"
def shutS : Str := Str.ofString "shut"
def R_guide (ds : List PyData) (o : Str × List PyData × List PyData) : Prop := ∃ (m : Maze) (s g : Int), (okMaze m ∧ inRoom m.n s ∧ inRoom m.n g ∧ m.n ≤ 60) ∧ ds = [mazeD m, .int s, .int g] ∧ ((∃ w, g ∈ comeR m s ∧ IsLeast m s g w ∧ o = (walkS, w.map .int, [])) ∨ (g ∉ comeR m s ∧ o = (shutS, (comeR m s).map .int, [handD (keysAmong m.ks (comeR m s))])))
def B_guide (A : Ad) (ds : List PyData) (c : Value) : Prop := ∃ (m : Maze) (s g : Int), (okMaze m ∧ m.n ≤ 60 ∧ (¬ inRoom m.n s ∨ ¬ inRoom m.n g)) ∧ ds = [mazeD m, .int s, .int g] ∧ c = .ref A.c_NoRoom
theorem ints_nolist : ∀ l : List Int, nolists (l.map .int) = true
  | [] => by simp [nolists]
  | x :: t => by
    have := ints_nolist t
    simp [nolists, nolist] at this ⊢
    exact this
theorem hand_nolist (l : List Int) : nolist (handD l) = true := by unfold handD; rw [nolist]; exact ints_nolist l
theorem ok_guide (T : Txt K mg A) : FnOk P w K mg base (L2.CX P w) 6 A.a_guide A.d_guide ["maze", "start", "goal"] (spGd K R_guide (B_guide A)) := by
  refine T.f_guide.okX sc_guide (fun vs H Q E h => ?_) (fun cdv Ar outer s H vs Q E hr h => ?_)
  · obtain ⟨H0, ds, sm, dv, ⟨d, ⟨m, s, g, _, rfl, _⟩, _⟩ | ⟨c, ⟨m, s, g, _, rfl, _⟩, _⟩⟩ := h <;> exact dpa_len dv
  obtain ⟨H0, ds, sm, dv, hh⟩ := h
  refine ⟨_, (pss_cons (ps_set (i := 3) sc_guide.nd rfl (.inl rfl) (pe_callS (ok_come T) (hr.mono (by decide)) rfl T.g_come T.f_come.kp (b_come T) (fun σ => passAt (takes_of rfl rfl rfl rfl) σ) (pa_cons (pv 0) (pa_cons (pv 1) pa_nil))))
      (pss_cons (ps_expr (pe_callS (ok_need_room T) (hr.mono (by decide)) rfl T.g_need_room T.f_need_room.kp (b_need_room T) (fun σ => passAt (takes_of rfl rfl rfl rfl) σ) (pa_cons (pe_ix (r := rIxT K) (by exact ix_tup) (pv 0) pe_int (fun _ _ => rfl)) (pa_cons (pv 2) pa_nil))))
      (pss_cons (ps_if (pt_cmpR (r := rIn K false) (by exact op_in_seq) (pv 2) (pv 3) (by rfl)) (pss_one (ps_ret (pe_tup (pa_cons pe_str (pa_cons (pe_callS (ok_least_walk T) (hr.mono (by decide)) rfl T.g_least_walk T.f_least_walk.kp (b_least_walk T) (fun σ => passAt (takes_of rfl rfl rfl rfl) σ) (pa_cons (pv 0) (pa_cons (pv 1) (pa_cons (pv 2) pa_nil)))) pa_nil))))) pss_nil)
      (pss_one (ps_ret (pe_tup (pa_cons pe_str (pa_cons (pv 3) (pa_cons (pe_callS (E := fun _ => E0) (ok_keys_among T) (hr.mono (by decide)) rfl T.g_keys_among T.f_keys_among.kp (b_keys_among T) (fun σ => pass0S) (pa_cons (pv 0) (pa_cons (pv 3) pa_nil))) pa_nil))))))))), ?_⟩
  have room : ∀ {m : Maze} {s g : Int} {sv : SV}, EvA K (tCons (tOp (rIxT K) (tVar 0) (tC (.int 0))) (tCons (tVar 2) tNil)) [.dat (mazeD m), .dat (.int s), .dat (.int g), sv] [.int m.n, .int g] := fun {m s g sv} => ea_cons (ev_ixT (ds := [.int m.n, .list (m.ds.map doorD), .list (m.ks.map keyD)]) (ev_var rfl) (ev_c rfl) rfl) (ea_cons (ev_var rfl) ea_nil)
  rcases hh with ⟨o, ⟨m, s0, g, ⟨hm, hs, hg, h60⟩, rfl, ho⟩, q⟩ | ⟨c, ⟨m, s0, g, ⟨hm, h60, hb⟩, rfl, rfl⟩, q⟩
  · obtain ⟨k, xs, rs⟩ := o
    refine Pf.run (X := fun cls d _ H => E cls d H) (oc := .rg k xs rs) sm dv rfl ?_ (fun t l ws us G H2 fr a1 a2 a3 a4 a5 a6 => q t l ws us G H2 fr a1 a2 (a3.elim False.elim id) a4 a5 a6)
    refine sx_seq (sx_setO (eo_callX (ea_cons (ev_var rfl) (ea_cons (ev_var rfl) ea_nil)) ⟨m, s0, ⟨hm, hs, h60⟩, rfl, rfl⟩)) ?_
    refine sx_seq (sx_drop (ev_callX room ⟨m.n, g, hg, rfl, rfl⟩)) ?_
    refine sx_when (b := decide (g ∈ comeR m s0)) (et_fix 3 rfl ((et_test (ev_inL (ds := (comeR m s0).map .int) (ev_var rfl) (ev_var rfl) rfl (ints_flat _))).is (by rw [ints_any]))) (fun z => ?_) (fun _ => rfl) fun z => ?_
    · rcases ho with ⟨w, h1, h2, h3⟩ | ⟨h1, _⟩
      · obtain ⟨rfl, h4⟩ := Prod.mk.inj h3
        obtain ⟨rfl, rfl⟩ := Prod.mk.inj h4
        exact sx_retG (eo_call (ea_cons (ev_var rfl) (ea_cons (ev_var rfl) (ea_cons (ev_var rfl) ea_nil))) ⟨m, s0, g, w, ⟨hm, hs, h60, h2⟩, rfl, rfl⟩)
      · exact absurd (of_decide_eq_true z) h1
    · rcases ho with ⟨w, h1, _⟩ | ⟨h1, h3⟩
      · exact absurd h1 (of_decide_eq_false z)
      · obtain ⟨rfl, h4⟩ := Prod.mk.inj h3
        obtain ⟨rfl, rfl⟩ := Prod.mk.inj h4
        exact sx_retG3 rfl (ev_fixT 3 rfl (hand_nolist _) (ev_call (ea_cons (ev_var rfl) (ea_cons (ev_var rfl) ea_nil)) ⟨m, comeR m s0, hm.1.1, rfl, rfl⟩))
  · by_cases hs : inRoom m.n s0
    · have hg : ¬ inRoom m.n g := hb.elim (fun z => absurd hs z) id
      refine Pf.run (X := fun cls d _ H => E cls d H) (oc := .ex (.ref A.c_NoRoom) [.dat (mazeD m), .dat (.int s0), .dat (.int g), .own ((comeR m s0).map .int)]) sm dv rfl ?_ (fun σ G H2 f _ _ => q G H2 f)
      refine sx_seq (sx_setO (eo_callX (ea_cons (ev_var rfl) (ea_cons (ev_var rfl) ea_nil)) ⟨m, s0, ⟨hm, hs, h60⟩, rfl, rfl⟩)) ?_
      exact sx_end (sx_outD (evx_call room ⟨m.n, g, hg, rfl, rfl⟩)) rfl
    · refine Pf.run (X := fun cls d _ H => E cls d H) (oc := .ex (.ref A.c_NoRoom) [.dat (mazeD m), .dat (.int s0), .dat (.int g), .no]) sm dv rfl ?_ (fun σ G H2 f _ _ => q G H2 f)
      exact sx_end (sx_outS (evx_callL (ea_cons (ev_var rfl) (ea_cons (ev_var rfl) ea_nil)) ⟨m, s0, hs, rfl, rfl⟩)) rfl

/-! the layers, each in the states' order -/
theorem stLe_anti {a b : State} (h : stLe a b = true) (k : stLe b a = true) : a = b := by
  unfold stLe at h k
  rw [decide_eq_true_eq] at h k
  rcases h with h | ⟨h1, h2⟩
  · rcases k with k | ⟨k, _⟩ <;> omega
  · rcases k with k | ⟨_, k2⟩
    · omega
    · exact Prod.ext h1 (ll_anti h2 k2)
theorem sortS_le (l : List State) : (sortS l).Pairwise fun a b => stLe a b = true := by
  unfold sortS
  rw [stLe_data]
  exact List.pairwise_mergeSort stLe_trans stLe_total l
theorem sortS_perm (l : List State) : (sortS l).Perm l := List.mergeSort_perm _ _
theorem sortS_one {zs xs : List State} (h : zs.Perm xs) : sortS zs = sortS xs :=
  List.Perm.eq_of_pairwise (fun _ _ _ _ h k => stLe_anti h k) (sortS_le zs) (sortS_le xs) ((sortS_perm zs).trans (h.trans (sortS_perm xs).symm))
def dedupS (S xs : List State) : List State := xs.foldl (fun ks x => if decide (x ∉ S) = true then (if x ∈ ks then ks else x :: ks) else ks) []
theorem dedupS_next {S xs : List State} {i : Nat} {x : State} (h : xs[i]? = some x) : dedupS S (xs.take (i + 1)) = if decide (x ∉ S) = true then (if x ∈ dedupS S (xs.take i) then dedupS S (xs.take i) else x :: dedupS S (xs.take i)) else dedupS S (xs.take i) := by
  unfold dedupS
  rw [List.take_add_one, h, List.foldl_append]; rfl
theorem dedupS_ok (S : List State) : ∀ xs : List State, (dedupS S xs).Nodup ∧ ∀ x, x ∈ dedupS S xs ↔ x ∉ S ∧ x ∈ xs := fun xs => by
  refine snoc_ind (P := fun xs => (dedupS S xs).Nodup ∧ ∀ x, x ∈ dedupS S xs ↔ x ∉ S ∧ x ∈ xs) ⟨List.nodup_nil, fun x => by simp [dedupS]⟩ (fun l a ih => ?_) xs
  have e : dedupS S (l ++ [a]) = if decide (a ∉ S) = true then (if a ∈ dedupS S l then dedupS S l else a :: dedupS S l) else dedupS S l := by
    unfold dedupS; rw [List.foldl_append]; rfl
  rw [e]
  obtain ⟨i1, i2⟩ := ih
  by_cases c : a ∉ S
  · rw [if_pos (decide_eq_true c)]
    by_cases d : a ∈ dedupS S l
    · rw [if_pos d]
      refine ⟨i1, fun x => (i2 x).trans ⟨fun z => ⟨z.1, List.mem_append_left _ z.2⟩, fun z => ⟨z.1, ?_⟩⟩⟩
      rcases List.mem_append.mp z.2 with y | y
      · exact y
      · rw [List.mem_singleton.mp y]; exact ((i2 a).mp d).2
    · rw [if_neg d]
      refine ⟨List.nodup_cons.mpr ⟨d, i1⟩, fun x => ?_⟩
      rw [List.mem_cons, i2 x, List.mem_append, List.mem_singleton]
      constructor
      · rintro (rfl | z)
        · exact ⟨c, .inr rfl⟩
        · exact ⟨z.1, .inl z.2⟩
      · rintro ⟨z1, z2 | z2⟩
        · exact .inr ⟨z1, z2⟩
        · exact .inl z2
  · rw [if_neg (by rw [decide_eq_false c]; decide)]
    refine ⟨i1, fun x => (i2 x).trans ⟨fun z => ⟨z.1, List.mem_append_left _ z.2⟩, fun z => ⟨z.1, ?_⟩⟩⟩
    rcases List.mem_append.mp z.2 with y | y
    · exact y
    · exact absurd z.1 (List.mem_singleton.mp y ▸ c)
theorem dedupS_set (S : List State) (xs : List State) : setK (fun x => decide (x ∉ S)) kS xs = (dedupS S xs).map kS := by
  unfold setK dedupS
  have go : ∀ (xs ks : List State), xs.foldl (fun q x => if decide (x ∉ S) = true then addK q (kS x) else q) (ks.map kS) = (xs.foldl (fun ks x => if decide (x ∉ S) = true then (if x ∈ ks then ks else x :: ks) else ks) ks).map kS := by
    intro xs
    induction xs with
    | nil => exact fun _ => rfl
    | cons x xs ih =>
      intro ks
      rw [List.foldl_cons, List.foldl_cons, ← ih]
      refine congrArg (fun z => List.foldl _ z xs) ?_
      split
      · unfold addK
        by_cases c : x ∈ ks
        · rw [if_pos c, if_pos (List.mem_map.mpr ⟨x, c, rfl⟩)]
        · rw [if_neg c, if_neg]; rfl
          intro z
          obtain ⟨y, hy, e⟩ := List.mem_map.mp z
          exact c (kS_inj e ▸ hy)
      · rfl
  exact go xs []
def lyr (m : Maze) (s : Int) (t : Nat) : List State := sortS ((layP m s t).2.map (·.1))
theorem lyr_mem {m : Maze} {s : Int} {t : Nat} {x : State} : x ∈ lyr m s t ↔ x ∈ (layP m s t).2.map (·.1) := sortS_mem
theorem lyr_zero (m : Maze) (s : Int) : lyr m s 0 = [st0 m s] := by
  have e : (layP m s 0).2.map (·.1) = [st0 m s] := rfl
  unfold lyr
  rw [e]
  exact List.perm_singleton.mp (sortS_perm _)
theorem lay_nodup (m : Maze) (s : Int) (t : Nat) : (((layP m s t).1 ++ (layP m s t).2).map (·.1)).Nodup := (layOk m s t).nd
theorem lyr_nodup (m : Maze) (s : Int) (t : Nat) : (lyr m s t).Nodup := by
  have := lay_nodup m s t
  rw [List.map_append] at this
  exact (sortS_perm _).nodup_iff.mpr (List.nodup_append.mp this).2.1
theorem lyr_next {m : Maze} {s : Int} {t : Nat} {S : List State} (hS : ∀ x, x ∈ S ↔ x ∈ (layP m s (t + 1)).1.map (·.1)) : sortS (dedupS S ((lyr m s t).flatMap (stepsS m))) = lyr m s (t + 1) := by
  obtain ⟨d1, d2⟩ := dedupS_ok S ((lyr m s t).flatMap (stepsS m))
  have nd := lay_nodup m s (t + 1)
  rw [List.map_append] at nd
  refine sortS_one ((List.perm_ext_iff_of_nodup d1 (List.nodup_append.mp nd).2.1).mpr fun x => ?_)
  rw [d2, hS]
  have e : (layP m s (t + 1)).2 = growE (((layP m s t).1 ++ (layP m s t).2).map (·.1)) (candP m (layP m s t).2) := rfl
  have e1 : (layP m s (t + 1)).1 = (layP m s t).1 ++ (layP m s t).2 := rfl
  rw [e, growE_keys, e1]
  refine and_congr Iff.rfl ?_
  rw [List.mem_flatMap, List.mem_map]
  constructor
  · rintro ⟨y, hy, h⟩
    obtain ⟨f, hf, rfl⟩ := List.mem_map.mp (lyr_mem.mp hy)
    exact ⟨(x, f.2 ++ [x.1]), candP_mem.mpr ⟨f, hf, h, rfl⟩, rfl⟩
  · rintro ⟨c, hc, rfl⟩
    obtain ⟨f, hf, h, _⟩ := candP_mem.mp hc
    exact ⟨f.1, lyr_mem.mpr (List.mem_map.mpr ⟨f, hf, rfl⟩), h⟩
theorem lyr_nil {m : Maze} {s : Int} {t : Nat} : lyr m s t = [] ↔ (layP m s t).2 = [] := by
  constructor
  · intro h
    have := (sortS_perm ((layP m s t).2.map (·.1))).length_eq
    have h' : (sortS ((layP m s t).2.map (·.1))).length = 0 := by rw [show sortS _ = [] from h]; rfl
    rw [h', List.length_map] at this
    exact List.eq_nil_of_length_eq_zero this.symm
  · intro h
    have e : (layP m s t).2.map (·.1) = [] := by rw [h]; rfl
    unfold lyr; rw [e]
    exact List.perm_nil.mp (sortS_perm [])
def layD (m : Maze) (s : Int) (N : Nat) : List PyData := (List.range N).map fun t => .list ((lyr m s t).map stateD)
/-- there are N layers -/
def IsEnd (m : Maze) (s : Int) (N : Nat) : Prop := (∀ i < N, (layP m s i).2 ≠ []) ∧ (layP m s N).2 = []
theorem end_is {m : Maze} (hm : okMaze m) {s : Int} (hs : inRoom m.n s) : ∃ N, IsEnd m s N := by
  obtain ⟨k, _, e⟩ := lay_end hm hs
  obtain ⟨N, _, n2, n3⟩ := least_nat (p := fun k => (layP m s k).2 = []) k e
  exact ⟨N, n3, n2⟩
theorem end_small {m : Maze} (hm : okMaze m) {s : Int} (hs : inRoom m.n s) (h60 : m.n ≤ 60) {N : Nat} (h : IsEnd m s N) : N ≤ 1920 := by
  have h1 := lay_long (m := m) (s := s) N fun j hj => h.1 j hj
  have h2 := lay_size hm hs N
  rw [List.length_append] at h2
  omega
theorem lay_few {m : Maze} (hm : okMaze m) {s : Int} (hs : inRoom m.n s) (h60 : m.n ≤ 60) (t : Nat) : ((layP m s t).1 ++ (layP m s t).2).length ≤ 1920 := by
  have := lay_size hm hs t
  omega
theorem lyr_ok {m : Maze} (hm : okMaze m) {s : Int} (hs : inRoom m.n s) {t : Nat} {x : State} (h : x ∈ lyr m s t) : okState m x := by
  obtain ⟨e, he, rfl⟩ := List.mem_map.mp (lyr_mem.mp h)
  exact lay_ok hm hs t e (List.mem_append.mpr (.inr he))
theorem lyr_len {m : Maze} (hm : okMaze m) {s : Int} (hs : inRoom m.n s) (h60 : m.n ≤ 60) (t : Nat) : (lyr m s t).length ≤ 1920 := by
  have := lay_few hm hs h60 t
  have e := (sortS_perm ((layP m s t).2.map (·.1))).length_eq
  rw [List.length_map] at e
  rw [List.length_append] at this
  show (sortS ((layP m s t).2.map (·.1))).length ≤ 1920
  omega

def R_layers (ds : List PyData) (xs : List PyData) : Prop := ∃ (m : Maze) (s : Int) (N : Nat), (okMaze m ∧ inRoom m.n s ∧ m.n ≤ 60 ∧ IsEnd m s N) ∧ ds = [mazeD m, .int s] ∧ xs = layD m s N
def B_layers (A : Ad) (ds : List PyData) (c : Value) : Prop := ∃ (m : Maze) (s : Int), ¬ inRoom m.n s ∧ ds = [mazeD m, .int s] ∧ c = .ref A.c_NoRoom
theorem nums_nk : ∀ l : List Int, nks (l.map .num) = true
  | [] => by simp [nks]
  | x :: r => by
    show nks (.num x :: r.map .num) = true
    rw [nks, nums_nk r, nk]; rfl
theorem kS_nk (x : State) : nk (kS x) = true := by
  unfold kS
  rw [nk, nks, nks, nks, nk, nk, nums_nk]; rfl
theorem addK_new {S : List State} {x : State} (h : x ∉ S) : addK (S.map kS) (kS x) = (x :: S).map kS := by
  unfold addK
  rw [if_neg]; rfl
  intro z
  obtain ⟨y, hy, e⟩ := List.mem_map.mp z
  exact h (kS_inj e ▸ hy)
theorem mem_kS {S : List State} {x : State} : kS x ∈ S.map kS ↔ x ∈ S := by
  constructor
  · intro z
    obtain ⟨y, hy, e⟩ := List.mem_map.mp z
    exact kS_inj e ▸ hy
  · exact fun z => List.mem_map.mpr ⟨x, z, rfl⟩
theorem ok_layers (T : Txt K mg A) : FnOk P w K mg base (L2.CX P w) 5 A.a_layers A.d_layers ["maze", "start"] (spXL K R_layers (B_layers A)) := by
  refine T.f_layers.okX sc_layers (fun vs H Q E h => ?_) (fun cdv Ar outer s H vs Q E hr h => ?_)
  · obtain ⟨H0, ds, sm, dv, ⟨d, ⟨m, s0, N, _, rfl, _⟩, _⟩ | ⟨c, ⟨m, s0, _, rfl, _⟩, _⟩⟩ := h <;> exact dpa_len dv
  obtain ⟨H0, ds, sm, dv, hh⟩ := h
  refine ⟨_, (pss_cons (ps_set (i := 2) sc_layers.nd rfl (.inl rfl) (pe_lst (pa_cons (pe_tup (pa_cons (pv 1) (pa_cons (pe_callS (ok_taken T) (hr.mono (by decide)) rfl T.g_taken T.f_taken.kp (b_taken T) (fun σ => passAt (takes_of rfl rfl rfl rfl) σ) (pa_cons (pv 0) (pa_cons (pv 1) (pa_cons (pe_tup pa_nil) pa_nil)))) pa_nil))) pa_nil)))
      (pss_cons (ps_set (i := 3) sc_layers.nd rfl (.inl rfl) (pe_lst pa_nil))
      (pss_cons (ps_set (i := 4) sc_layers.nd rfl (.inr rfl) (pe_callTy0 cr_newS (by rfl) T.u_set (by decide +kernel)))
      (pss_cons (ps_while (passes_of rfl) (pt_cmpR op_gt (pe_callB call_len_seq (by rfl) T.u_len (by decide +kernel) (pa_cons (pv 2) pa_nil)) pe_int (nomark _)) (pss_cons (ps_expr (pe_bm PySem.F.plainAttrs_list PySem.F.slot_list_append PySem.F.type_list_append mt_append (pv 3) (pa_cons (pv 2) pa_nil)))
      (pss_cons (ps_for (passes_of rfl) rfl (pi_list (pv 2)) (pg_name (i := 5) sc_layers.nd rfl (Or.inl rfl))
        (pss_one (ps_expr (pe_addS (u65 hr) (pv 4) (pa_cons (pv 5) pa_nil)))))
      (pss_cons (ps_setLc2 (i := 6) (own := [("room", 7), ("held", 8), ("state", 5)]) (vs1 := [5]) (g := gTup _ 2 (gCons (gName 7) (gCons (gName 8) gNil))) (g1 := gName 5) rfl sc_layers.nd rfl rfl (sw_true rfl rfl rfl (by decide +kernel)) (pi_list (pv 2)) (blkOk_by (own := [("room", 7), ("held", 8), ("state", 5)]) (N := n_layers) (sc := defScope s_layers) (by decide +kernel)) (by decide)
        (fun _ _ _ _ _ => (pg_tup rfl (pgs_cons (pg_name (i := 7) sc_layers.nd rfl (Or.inl rfl)) (pgs_cons (pg_name (i := 8) sc_layers.nd rfl (Or.inl rfl)) pgs_nil))))
        (fun _ _ _ _ _ => pts_nil)
        (fun _ _ _ _ _ => (pi_listK (K := K) (pe_callS (ok_steps T) (hr.mono (by decide)) rfl T.g_steps T.f_steps.kp (b_steps T) (fun σ => passAt takes0 σ) (pa_cons (pv 0) (pa_cons (pv 7) (pa_cons (pv 8) pa_nil)))) rfl))
        (fun _ _ _ _ _ => (pg_name (i := 5) sc_layers.nd rfl (Or.inl rfl)))
        (fun _ _ _ _ _ => pts_nil)
        (fun _ _ _ _ _ => (pv 5)))
      (pss_one (ps_set (i := 2) sc_layers.nd rfl (.inl rfl) (pe_callB (r := rSortS w K) (by exact (cr_sortS (u65 hr) rfl)) (by rfl) T.u_sorted (by decide +kernel) (pa_cons (pe_sk (u65 hr) (own := [("state", 5)]) (g := gName 5) rfl sc_layers.nd (pi_list (pv 6)) (blkOk_by (own := [("state", 5)]) (N := n_layers) (sc := defScope s_layers) (by decide +kernel))
        (fun _ _ _ _ _ => (pg_name (i := 5) sc_layers.nd rfl (Or.inl rfl))) (fun _ _ _ _ _ => (pts_one (pt_cmpR (r := rInS w K true) (by exact (op_notInS (u65 hr))) (pv 5) (pv 4) (by rfl)))) (fun _ _ _ _ _ => (pv 5))) pa_nil))))))))
      (pss_one (ps_ret (pv 3))))))), ?_⟩
  rcases hh with ⟨xs, ⟨m, s0, N, ⟨hm, hs, h60, hE⟩, rfl, rfl⟩, q⟩ | ⟨c, ⟨m, s0, hs, rfl, rfl⟩, q⟩
  · refine Pf.run (X := fun cls d _ H => E cls d H) (oc := .rl (layD m s0 N)) sm dv rfl ?_ (fun p ws G H2 fr w1 w2 w3 w4 => q p ws G H2 fr (w1.elim False.elim id) w2 w3 w4)
    have nE := end_small hm hs h60 hE
    refine sx_seq (sx_set (d := .list [stateD (st0 m s0)]) (EvO.ev (eo_lst (ea_cons (ev_tup (ea_cons (ev_var rfl) (ea_cons (ev_callX (ea_cons (ev_var rfl) (ea_cons (ev_var rfl) (ea_cons (ev_tup ea_nil (by decide)) ea_nil))) ⟨m, s0, [], ⟨hm.1, Nat.zero_le _, hs⟩, rfl, rfl⟩) ea_nil)) (Nat.le_of_ble_eq_true rfl)) ea_nil) (Nat.le_of_ble_eq_true rfl)))) ?_
    refine sx_seq (sx_setO (eo_lst ea_nil (by decide))) ?_
    refine sx_seq (sx_newS (w := w)) ?_
    refine sx_seq (sx_while (n := N) (fun i => [.dat (mazeD m), .dat (.int s0), .dat (.list ((lyr m s0 i).map stateD)), .own (layD m s0 i), .stk w ((layP m s0 i).1.map fun e => kS e.1), .no, .no, .no, .no]) ?_ (fun i hi => ⟨?_, .inl ?_⟩) ?_) (sx_retV rfl)
    · rw [lyr_zero]; rfl
    · refine et_test (Ev.is (d := .bool (decide ((0 : Int) < ((lyr m s0 i).map stateD).length))) (by exact ev_I0 (ev_len (ev_var rfl)) (ev_c rfl) rfl) ?_)
      congr 1
      have := List.length_pos_iff.mpr fun z => hE.1 i hi (lyr_nil.mp z)
      exact decide_eq_true (by rw [List.length_map]; omega)
    · refine sx_seq (sx_app (d := .list ((lyr m s0 i).map stateD)) rfl (ev_var rfl) (by unfold layD; rw [List.length_map, List.length_range]; omega)) ?_
      have len := lyr_len hm hs h60 i
      have few := lay_few hm hs h60 i
      rw [List.length_append] at few
      have nd := lay_nodup m s0 i
      rw [List.map_append] at nd
      have lnd := lyr_nodup m s0 i
      have new : ∀ x ∈ lyr m s0 i, x ∉ (layP m s0 i).1.map (·.1) := fun x hx z => (List.nodup_append.mp nd).2.2 x z x (lyr_mem.mp hx) rfl
      have eD : layD m s0 i ++ [.list ((lyr m s0 i).map stateD)] = layD m s0 (i + 1) := by
        unfold layD
        rw [List.range_succ, List.map_append]; rfl
      try dsimp only
      rw [eD]
      have e0 : (layP m s0 i).1.map (fun e => kS e.1) = ((layP m s0 i).1.map (·.1)).map kS := by rw [List.map_map]; rfl
      -- the seen states behind j of the layer's
      refine sx_seq (sx_for (ds := (lyr m s0 i).map stateD) (ev_var rfl) (fun j => [.dat (mazeD m), .dat (.int s0), .dat (.list ((lyr m s0 i).map stateD)), .own (layD m s0 (i + 1)), .stk w ((((lyr m s0 i).take j).reverse ++ (layP m s0 i).1.map (·.1)).map kS), .no, .no, .no, .no]) (by rw [e0]; rfl) fun j d hj => ?_) ?_
      · rw [List.getElem?_map] at hj
        cases ej : (lyr m s0 i)[j]? with
        | none => rw [ej] at hj; cases hj
        | some x =>
          rw [ej] at hj
          obtain rfl := Option.some.inj hj
          have jl : j < (lyr m s0 i).length := (List.getElem?_eq_some_iff.mp ej).1
          have ex : (lyr m s0 i)[j] = x := (List.getElem?_eq_some_iff.mp ej).2
          have etk : (lyr m s0 i).take (j + 1) = (lyr m s0 i).take j ++ [x] := by rw [List.take_succ_eq_append_getElem jl, ex]
          have nx : x ∉ ((lyr m s0 i).take j).reverse ++ (layP m s0 i).1.map (·.1) := fun z => by
            rcases List.mem_append.mp z with z | z
            · have nd2 := lnd
              rw [← List.take_append_drop (j + 1) (lyr m s0 i), etk] at nd2
              have nd3 := (List.nodup_append.mp nd2).1
              exact (List.nodup_append.mp nd3).2.2 x (List.mem_reverse.mp z) x (List.mem_singleton.mpr rfl) rfl
            · exact new x (List.mem_of_getElem? ej) z
          refine ⟨_, tg_name, ?_⟩
          try dsimp only
          have ea := addK_new nx
          have el : x :: (((lyr m s0 i).take j).reverse ++ (layP m s0 i).1.map (·.1)) = ((lyr m s0 i).take (j + 1)).reverse ++ (layP m s0 i).1.map (·.1) := by
            rw [etk, List.reverse_append]; rfl
          rw [← el, ← ea]
          refine go_less (sx_addS rfl (kS_key x) (kS_nk x) ((ev_var rfl).is (kS_data x).symm) ?_) (by walk_at "less")
          rw [List.length_map, List.length_append, List.length_reverse, List.length_take, List.length_map]; omega
      · rw [List.length_map, List.take_length]
        have hS : ∀ x, x ∈ (lyr m s0 i).reverse ++ (layP m s0 i).1.map (·.1) ↔ x ∈ (layP m s0 (i + 1)).1.map (·.1) := fun x => by
          have e : (layP m s0 (i + 1)).1 = (layP m s0 i).1 ++ (layP m s0 i).2 := rfl
          rw [e, List.map_append, List.mem_append, List.mem_append, List.mem_reverse, lyr_mem]
          exact Or.comm
        have perm : (((lyr m s0 i).reverse ++ (layP m s0 i).1.map (·.1)).map kS).Perm ((layP m s0 (i + 1)).1.map fun e => kS e.1) := by
          have e : (layP m s0 (i + 1)).1 = (layP m s0 i).1 ++ (layP m s0 i).2 := rfl
          have e1 : ((layP m s0 (i + 1)).1.map fun e => kS e.1) = ((layP m s0 i).1.map (·.1) ++ (layP m s0 i).2.map (·.1)).map kS := by rw [e, ← List.map_append, List.map_map]; rfl
          rw [e1]
          exact (List.perm_append_comm.trans (List.Perm.append_left _ ((List.reverse_perm _).trans (sortS_perm _)))).map kS
        generalize (lyr m s0 i).reverse ++ (layP m s0 i).1.map (·.1) = S at hS perm
        have nextE : sortS (dedupS S ((lyr m s0 i).flatMap (stepsS m))) = lyr m s0 (i + 1) := lyr_next hS
        have lenF : ((lyr m s0 i).flatMap (stepsS m)).length < 16000000 := by
          have : ∀ l : List State, l.length ≤ 1920 → (l.flatMap (stepsS m)).length ≤ l.length * 1000 := fun l _ => by
            induction l with
            | nil => exact Nat.zero_le _
            | cons x l ih =>
              have := len_states (m := m) (x := x) hm.2.1
              rw [List.flatMap_cons, List.length_append, List.length_cons]
              have := ih (by rename_i h; rw [List.length_cons] at h; omega)
              omega
          have := this _ len
          omega
        refine sx_seq (sx_set (d := .list (((lyr m s0 i).flatMap (stepsS m)).map stateD)) (EvO.ev (eo_lc2 (lyr m s0 i) stateD (stepsS m) stateD stateD (ev_var rfl) lenF (by decide) fun x hx => ?_))) ?_
        · have ox := lyr_ok hm hs hx
          refine ⟨_, tgw_tup (ds := [.int x.1, handD x.2]) (tgsw_cons (tgw_name (by decide)) (tgsw_cons (tgw_name (by decide)) tgsw_nil)) rfl, et_yes, EvO.ev (eo_callX (ea_cons (ev_var rfl) (ea_cons (ev_var rfl) (ea_cons (ev_var rfl) ea_nil))) ⟨m, x.1, x.2, ⟨hm, ox.2.2.1, ox.1⟩, rfl, rfl⟩), fun y _ => ⟨_, tgw_name (by decide), et_yes, ev_var rfl⟩⟩
        · rw [← nextE]
          refine nx_less (sx_stk (i := 4) (w := w) (ks := S.map kS) rfl perm (sx_set (EvO.ev (eo_sortK kS stateD kS_data (xs := dedupS S ((lyr m s0 i).flatMap (stepsS m))) (ys := sortS (dedupS S ((lyr m s0 i).flatMap (stepsS m)))) ?_ stateD_alike stateD_tup stateD_deep fun zs hz => sortS_one hz)))) (by walk_at "less")
          rw [← dedupS_set]
          refine es_sk ((lyr m s0 i).flatMap (stepsS m)) stateD (fun x => decide (x ∉ S)) kS (ev_var rfl) (fun j => ?_) (fun x _ => ⟨kS_key x, kS_nk x⟩) fun x _ => ⟨_, tgw_name (by decide), ?_, fun _ => (ev_var rfl).is (kS_data x).symm⟩
          · rw [dedupS_set, List.length_map]
            obtain ⟨d1, d2⟩ := dedupS_ok S (((lyr m s0 i).flatMap (stepsS m)).take j)
            have := nodup_le d1 (r := allStates m.n) fun x hx => by
              obtain ⟨y, hy, h⟩ := List.mem_flatMap.mp (List.mem_of_mem_take ((d2 x).mp hx).2)
              exact okState_all (okState_step hm (lyr_ok hm hs hy) h)
            rw [allStates_len] at this
            omega
          · refine EvT.is (et_test (ev_inS (w := w) (neg := true) (ks := S.map kS) (kS_key x) (kS_nk x) ((ev_var rfl).is (kS_data x).symm) rfl)) ?_
            show (!decide (kS x ∈ S.map kS)) = decide (x ∉ S)
            rw [decide_eq_decide.mpr mem_kS, decide_not]
    · refine et_test (Ev.is (d := .bool (decide ((0 : Int) < ((lyr m s0 N).map stateD).length))) (by exact ev_I0 (ev_len (ev_var rfl)) (ev_c rfl) rfl) ?_)
      congr 1
      rw [lyr_nil.mpr hE.2]; rfl
  · refine Pf.run (X := fun cls d _ H => E cls d H) (oc := .ex (.ref A.c_NoRoom) [.dat (mazeD m), .dat (.int s0), .no, .no, .no, .no, .no, .no, .no]) sm dv rfl ?_ (fun σ G H2 f _ _ => q G H2 f)
    exact sx_end (sx_outS (evx_lst (evx_head (evx_tup (evx_tail (ev_var rfl) (evx_head (evx_call (ea_cons (ev_var rfl) (ea_cons (ev_var rfl) (ea_cons (ev_tup ea_nil (by decide)) ea_nil))) ⟨m, s0, [], hs, rfl, rfl⟩))))))) rfl

/-! whether it is a state: asked of states -/
def R_is_state (ds : List PyData) (d : PyData) : Prop := ∃ x : State, ds = [stateD x] ∧ d = .bool true
theorem ok_l_is_state (T : Txt K mg A) : FnOk P w K mg base CX0 3 A.a_l_is_state A.d_l_is_state ["_law_found"] (spG K R_is_state) := by
  refine T.f_l_is_state.ok sc_l_is_state (fun vs H Q E h => ?_) (fun cdv Ar outer s H vs Q E hr h => ?_)
  · obtain ⟨H0, ds, d, sm, dv, ⟨x, rfl, _⟩, _⟩ := h; exact dpa_len dv
  obtain ⟨H0, ds, d, sm, dv, ⟨x, rfl, rfl⟩, q⟩ := h
  refine ⟨_, (pss_cons (ps_if (PW.pt (pw_or (pt_not (pt_val (pe_callB (r := rIsi K) (by exact call_isi) (by rfl) T.u_isinstance (by decide +kernel) (pa_cons (pv 0) (pa_cons (pe_bltn (v := .ty "tuple") (by rfl) T.u_tuple (by decide +kernel) rfl) pa_nil))))) (pw_or (pt_cmpR op_ne (pe_callB call_len_seq (by rfl) T.u_len (by decide +kernel) (pa_cons (pv 0) pa_nil)) pe_int (nomark _)) (pw_or1 (pt_not (pt_val (pe_callS (E := fun _ => E0) (ok_l_whole T) (hr.mono (by decide)) rfl T.g_l_whole T.f_l_whole.kp (b_l_whole T) (fun σ => pass0S) (pa_cons (pe_ix (r := rIxT K) (by exact ix_tup) (pv 0) pe_int (fun _ _ => rfl)) pa_nil)))))))) (pss_one (ps_ret pe_bl)) pss_nil)
      (pss_one (ps_ret (pe_and (pe_callB (r := rIsi K) (by exact call_isi) (by rfl) T.u_isinstance (by decide +kernel) (pa_cons (pe_ix (r := rIxT K) (by exact ix_tup) (pv 0) pe_int (fun _ _ => rfl)) (pa_cons (pe_bltn (v := .ty "tuple") (by rfl) T.u_tuple (by decide +kernel) rfl) pa_nil))) (pe_one (pe_callS (E := fun _ => E0) (ok_l_hand T) (hr.mono (by decide)) rfl T.g_l_hand T.f_l_hand.kp (b_l_hand T) (fun σ => pass0S) (pa_cons (pe_ix (r := rIxT K) (by exact ix_tup) (pv 0) pe_int (fun _ _ => rfl)) (pa_cons (pe_ix (r := rIxT K) (by exact ix_tup) (pv 0) pe_int (fun _ _ => rfl)) pa_nil)))))))), ?_⟩
  refine Pf.run (X := fun _ _ _ _ => False) (oc := .rt (.bool true)) sm dv rfl ?_ q
  have g1 : Ev K (tOp (rIxT K) (tVar 0) (tC (.int 0))) [.dat (stateD x)] (.int x.1) := ev_ixT (ds := [.int x.1, handD x.2]) (ev_var rfl) (ev_c rfl) rfl
  have g2 : Ev K (tOp (rIxT K) (tVar 0) (tC (.int 1))) [.dat (stateD x)] (handD x.2) := ev_ixT (ds := [.int x.1, handD x.2]) (ev_var rfl) (ev_c rfl) rfl
  refine sx_seq (sx_no (EvT.is (b := !true || (!decide ((2 : Int) = 2) || !true)) (et_or (et_not (et_B (ev_isi (n := "tuple") (d := stateD x) (ev_var rfl) (kit_ty (by decide +kernel))))) fun _ => et_or (et_test (ev_neI (ev_lenT (xs := [.int x.1, handD x.2]) (ev_var rfl)) (ev_c rfl))) fun _ => et_not (et_B (ev_call (ea_cons g1 ea_nil) ⟨x.1, rfl, rfl⟩))) (by decide)) sx_next) ?_
  exact sx_ret (ev_andV (a := true) (b := true) (ev_isi (n := "tuple") (d := handD x.2) g2 (kit_ty (by decide +kernel))) fun _ => (ev_call (ea_cons g2 (ea_cons g2 ea_nil)) ⟨x.2, x.2, rfl, rfl⟩).is (by rw [decide_eq_true rfl]))

/-! the rooms that the law grows; the shut ones -/
theorem heldW_mem {m : Maze} {k : Int} (w : List Int) : k ∈ heldW m w ↔ ∃ r ∈ w, (r, k) ∈ m.ks := by
  refine snoc_ind (P := fun w => k ∈ heldW m w ↔ ∃ r ∈ w, (r, k) ∈ m.ks) (by unfold heldW; simp) (fun w a ih => ?_) w
  have e : heldW m (w ++ [a]) = taken m.ks a (heldW m w) := by unfold heldW; rw [List.foldl_append]; rfl
  rw [e, taken_mem, ih]
  constructor
  · rintro (⟨r, h1, h2⟩ | h)
    · exact ⟨r, List.mem_append.mpr (.inl h1), h2⟩
    · exact ⟨a, List.mem_append.mpr (.inr (List.mem_singleton.mpr rfl)), h⟩
  · rintro ⟨r, h1, h2⟩
    rcases List.mem_append.mp h1 with z | z
    · exact .inl ⟨r, z, h2⟩
    · rw [List.mem_singleton.mp z] at h2; exact .inr h2
theorem heldW_ok {m : Maze} (hk : okKeys m.ks) (w : List Int) : okHeld (heldW m w) ∧ (heldW m w).Pairwise (· < ·) := by
  refine snoc_ind (P := fun w => okHeld (heldW m w) ∧ (heldW m w).Pairwise (· < ·)) ⟨⟨Nat.zero_le _, fun _ z => absurd z List.not_mem_nil⟩, List.Pairwise.nil⟩ (fun w a ih => ?_) w
  have e : heldW m (w ++ [a]) = taken m.ks a (heldW m w) := by unfold heldW; rw [List.foldl_append]; rfl
  rw [e]
  exact ⟨taken_ok hk ih.1, rise_up _⟩
theorem heldW_among {m : Maze} (hk : okKeys m.ks) (w : List Int) : heldW m w = keysAmong m.ks w := rising_one (heldW_ok hk w).2 (rise_up _) fun k => by rw [heldW_mem, among_mem]
theorem opens_heldW (m : Maze) (w : List Int) (l : Option Int) : opensF l (heldW m w) = opensIn m.ks w l := by
  rw [← opens_among]
  cases l with
  | none => rfl
  | some k => exact decide_eq_decide.mpr ((heldW_mem w).trans among_mem.symm)

/-! where steps lead -/
theorem flat_lay (m : Maze) (s : Int) : ∀ N, ((List.range N).flatMap (lyr m s)).Perm ((layP m s N).1.map (·.1))
  | 0 => .nil
  | N + 1 => by
    have e : (layP m s (N + 1)).1 = (layP m s N).1 ++ (layP m s N).2 := rfl
    rw [List.range_succ, List.flatMap_append, List.flatMap_cons, List.flatMap_nil, List.append_nil, e, List.map_append]
    exact (flat_lay m s N).append (sortS_perm _)
/-- what a step leads to -/
theorem step_lay {m : Maze} {s : Int} {N : Nat} (h : IsEnd m s N) {k : Nat} (hk : k < N) {x o : State} (hx : x ∈ lyr m s k) (ho : o ∈ stepsS m x) : ∃ j, j ≤ k + 1 ∧ j < N ∧ o ∈ lyr m s j := by
  obtain ⟨e, he, rfl⟩ := List.mem_map.mp (lyr_mem.mp hx)
  have e1 : e ∈ (layP m s (k + 1)).1 := List.mem_append.mpr (.inr he)
  obtain ⟨f, hf, rfl⟩ := List.mem_map.mp (lay_closed (k + 1) e e1 o ho)
  rcases List.mem_append.mp hf with z | z
  · obtain ⟨j, j1, j2⟩ := lay_of (k + 1) f z
    exact ⟨j, by omega, by omega, lyr_mem.mpr (List.mem_map.mpr ⟨f, j2, rfl⟩)⟩
  · refine ⟨k + 1, Nat.le_refl _, ?_, lyr_mem.mpr (List.mem_map.mpr ⟨f, z, rfl⟩)⟩
    by_cases c : k + 1 < N
    · exact c
    · have : k + 1 = N := by omega
      rw [this, h.2] at z; cases z
theorem lay_from {m : Maze} {s : Int} {k : Nat} {o : State} (h : o ∈ lyr m s (k + 1)) : ∃ x ∈ lyr m s k, o ∈ stepsS m x := by
  obtain ⟨e, he, rfl⟩ := List.mem_map.mp (lyr_mem.mp h)
  obtain ⟨x, hx, h1, _⟩ := candP_mem.mp ((growE_sub _ _).subset he)
  exact ⟨x.1, lyr_mem.mpr (List.mem_map.mpr ⟨x, hx, rfl⟩), h1⟩
def putAll (M : List (State × Bool)) (cs : List State) : List (State × Bool) := seenAdd M (cs.map fun x => (x, []))
theorem putAll_app (M : List (State × Bool)) (as bs : List State) : putAll M (as ++ bs) = putAll (putAll M as) bs := by
  unfold putAll seenAdd
  rw [List.map_append, List.foldl_append]
theorem putAll_ok (M : List (State × Bool)) (cs : List State) (nd : (M.map (·.1)).Nodup) : ((putAll M cs).map (·.1)).Nodup ∧ ∀ x, x ∈ (putAll M cs).map (·.1) ↔ x ∈ M.map (·.1) ∨ x ∈ cs := by
  have h := seenAdd_ok (cs.map fun x => (x, [])) M nd
  have e : (cs.map fun x => ((x, []) : Ent2)).map (·.1) = cs := by rw [List.map_map]; exact List.map_id _
  rw [e] at h
  exact h

/-! a walk that is walked -/
def WalkOk (m : Maze) (w : List Int) : Prop := ∀ (k : Nat) (a b : Int), w[k]? = some a → w[k + 1]? = some b → (b, taken m.ks b (heldW m (w.take (k + 1)))) ∈ stepsS m (a, heldW m (w.take (k + 1)))
theorem walk_lay {m : Maze} {s : Int} : ∀ t, ∀ e ∈ (layP m s t).2, WalkOk m e.2
  | 0, e, he => by
    rw [List.mem_singleton.mp (show e ∈ [(st0 m s, [s])] from he)]
    intro k a b _ h
    simp at h
  | t + 1, e, he => by
    obtain ⟨f, hf, h1, h2⟩ := candP_mem.mp ((growE_sub _ _).subset he)
    have ih := walk_lay t f hf
    have e0 := ((layOk m s t).wk f hf).2.2
    rw [h2]
    intro k a b ha hb
    by_cases c : k + 1 < f.2.length
    · rw [List.getElem?_append_left (by omega)] at ha hb
      rw [List.take_append_of_le_length (by omega)]
      exact ih k a b ha hb
    · have kl : k + 1 = f.2.length := by
        have := (List.getElem?_eq_some_iff.mp hb).1
        rw [List.length_append, List.length_singleton] at this
        omega
      rw [List.getElem?_append_left (by omega)] at ha
      rw [List.getElem?_append_right (by omega), kl, Nat.sub_self] at hb
      obtain rfl := Option.some.inj hb
      have et : (f.2 ++ [e.1.1]).take (k + 1) = f.2 := by rw [List.take_append_of_le_length (by omega), kl, List.take_length]
      have ea : f.1 = (a, heldW m f.2) := by
        have el : f.2.getLast? = some a := by
          rw [List.getLast?_eq_getElem?, ← kl]
          exact ha
        rw [e0]
        unfold stW
        rw [el]; rfl
      rw [et]
      rw [ea] at h1
      have e3 := steps_to h1
      have e4 : e.1 = (e.1.1, taken m.ks e.1.1 (heldW m f.2)) := Prod.ext rfl e3
      rw [← e4]; exact h1
theorem heldW_take {m : Maze} {w : List Int} {k : Nat} {b : Int} (h : w[k]? = some b) : heldW m (w.take (k + 1)) = taken m.ks b (heldW m (w.take k)) := by
  unfold heldW
  rw [List.take_succ_eq_append_getElem (List.getElem?_eq_some_iff.mp h).1, (List.getElem?_eq_some_iff.mp h).2, List.foldl_append]; rfl
def R_walks (ds : List PyData) (d : PyData) : Prop := ∃ (m : Maze) (s g : Int) (w : List Int), (okMaze m ∧ w.length ≤ 3000 ∧ w.head? = some s ∧ w.getLast? = some g ∧ WalkOk m w) ∧ ds = [.list (m.ds.map doorD), .list (m.ks.map keyD), intsD w, .int s, .int g] ∧ d = .bool true
theorem ok_l_walks (T : Txt K mg A) : FnOk P w K mg base CX0 3 A.a_l_walks A.d_l_walks ["_law_doors_here", "_law_lying_here", "_law_walk", "_law_start", "_law_goal_here"] (spG K R_walks) := by
  refine T.f_l_walks.ok sc_l_walks (fun vs H Q E h => ?_) (fun cdv Ar outer s H vs Q E hr h => ?_)
  · obtain ⟨H0, ds, d, sm, dv, ⟨m, s0, g, ww, _, rfl, _⟩, _⟩ := h; exact dpa_len dv
  obtain ⟨H0, ds, d, sm, dv, ⟨m, s0, g, ww, ⟨hm, hl, hh, hg, hw⟩, rfl, rfl⟩, q⟩ := h
  refine ⟨_, (pss_cons (ps_if (PW.pt (pw_or (pt_not (pt_val (pe_callB (r := rIsi K) (by exact call_isi) (by rfl) T.u_isinstance (by decide +kernel) (pa_cons (pv 2) (pa_cons (pe_bltn (v := .ty "list") (by rfl) T.u_list (by decide +kernel) rfl) pa_nil))))) (pw_or1 (pt_cmpR op_lt (pe_callB call_len_seq (by rfl) T.u_len (by decide +kernel) (pa_cons (pv 2) pa_nil)) pe_int (nomark _))))) (pss_one (ps_ret pe_bl)) pss_nil)
      (pss_cons (ps_if (PW.pt (pw_or (pt_cmpR op_ne (pe_ix (r := rIxL K) (by exact ix_list) (pv 2) pe_int (fun _ _ => rfl)) (pv 3) (nomark _)) (pw_or1 (pt_cmpR op_ne (pe_ix (r := rIxL K) (by exact ix_list) (pv 2) (pe_un un_neg pe_int) (fun _ _ => rfl)) (pv 4) (nomark _))))) (pss_one (ps_ret pe_bl)) pss_nil)
      (pss_cons (ps_set (i := 5) sc_l_walks.nd rfl (.inl rfl) (pe_tup pa_nil))
      (pss_cons (ps_for PassesOwn.never rfl (pi_range1 rfl T.u_range (pa_cons (pe_callB call_len_seq (by rfl) T.u_len (by decide +kernel) (pa_cons (pv 2) pa_nil)) pa_nil)) (pg_name (i := 6) sc_l_walks.nd rfl (Or.inl rfl))
        (pss_cons (ps_if (pt_not (pt_val (pe_callS (E := fun _ => E0) (ok_l_whole T) (hr.mono (by decide)) rfl T.g_l_whole T.f_l_whole.kp (b_l_whole T) (fun σ => pass0S) (pa_cons (pe_ix (r := rIxL K) (by exact ix_list) (pv 2) (pv 6) (fun _ _ => rfl)) pa_nil)))) (pss_one (ps_ret pe_bl)) pss_nil)
      (pss_cons (ps_set (i := 7) sc_l_walks.nd rfl (.inl rfl) (pe_tup (pa_cons (pe_ix (r := rIxL K) (by exact ix_list) (pv 2) (pv 6) (fun _ _ => rfl)) (pa_cons (pe_callS (E := fun _ => E0) (ok_l_taken T) (hr.mono (by decide)) rfl T.g_l_taken T.f_l_taken.kp (b_l_taken T) (fun σ => pass0S) (pa_cons (pv 1) (pa_cons (pe_ix (r := rIxL K) (by exact ix_list) (pv 2) (pv 6) (fun _ _ => rfl)) (pa_cons (pv 5) pa_nil)))) pa_nil))))
      (pss_cons (ps_if (pt_cmpR op_gt (pv 6) pe_int (nomark _)) (pss_cons (ps_set (i := 8) sc_l_walks.nd rfl (.inl rfl) (pe_callS (E := fun _ => E0) (ok_l_steps T) (hr.mono (by decide)) rfl T.g_l_steps T.f_l_steps.kp (b_l_steps T) (fun σ => pass0S) (pa_cons (pv 0) (pa_cons (pv 1) (pa_cons (pe_ix (r := rIxL K) (by exact ix_list) (pv 2) (pe_op op_sub (pv 6) pe_int) (fun _ _ => rfl)) (pa_cons (pv 5) pa_nil))))))
      (pss_one (ps_if (pt_cmpR (r := rNotInD K) (by exact (op_notInD (u65 hr))) (pv 7) (pv 8) (by rfl)) (pss_one (ps_ret pe_bl)) pss_nil))) pss_nil)
      (pss_one (ps_set (i := 5) sc_l_walks.nd rfl (.inl rfl) (pe_ix (r := rIxT K) (by exact ix_tup) (pv 7) pe_int (fun _ _ => rfl))))))))
      (pss_one (ps_ret pe_bl)))))), ?_⟩
  refine Pf.run (X := fun _ _ _ _ => False) (oc := .rt (.bool true)) sm dv rfl ?_ q
  have wl : (ww.map PyData.int).length = ww.length := List.length_map _
  have w1 : 1 ≤ ww.length := by
    cases ww with
    | nil => cases hh
    | cons a t => rw [List.length_cons]; omega
  have at0 : atI (ww.map PyData.int) 0 = some (.int s0) := by
    rw [List.head?_eq_getElem?] at hh
    exact atI_nat' (j := 0) (by rw [List.getElem?_map, hh]; rfl)
  have atl : atI (ww.map PyData.int) (-1) = some (.int g) := by
    rw [List.getLast?_eq_getElem?] at hg
    unfold atI ixN
    rw [if_neg (by decide), wl, if_pos (by omega)]
    show (ww.map PyData.int)[(((ww.length : Nat) : Int) + -1).toNat]? = _
    have e : (((ww.length : Nat) : Int) + -1).toNat = ww.length - 1 := by omega
    rw [e, List.getElem?_map, hg]; rfl
  refine sx_seq (sx_no (EvT.is (b := !true || decide ((ww.length : Int) < 1)) (et_or (et_not (et_B (ev_isi (n := "list") (ev_var (i := 2) rfl) (kit_ty (by decide +kernel))))) fun _ => EvT.is (et_test (ev_I0 (ev_len (ev_var (i := 2) rfl)) (ev_c rfl) rfl)) (by rw [wl])) (by rw [decide_eq_false (by omega)]; rfl)) sx_next) ?_
  refine sx_seq (sx_no (EvT.is (b := !decide (s0 = s0) || !decide (g = g)) (et_or (et_test (ev_neI (ev_ixL (ev_var (i := 2) rfl) (ev_c rfl) at0) (ev_var rfl))) fun _ => et_test (ev_neI (ev_ixL (ev_var (i := 2) rfl) (ev_U (ev_c rfl) rfl) atl) (ev_var rfl))) (by rw [decide_eq_true rfl, decide_eq_true rfl]; rfl)) sx_next) ?_
  refine sx_seq (sx_set (d := handD []) (ev_tup ea_nil (by decide))) ?_
  refine sx_seq (sx_forR1 (n := ww.length) (ea_cons (ev_len (ev_var (i := 2) rfl)) ea_nil) (by rw [wl]; omega) (by rw [wl]; omega) (fun i => [.dat (.list (m.ds.map doorD)), .dat (.list (m.ks.map keyD)), .dat (intsD ww), .dat (.int s0), .dat (.int g), .dat (handD (heldW m (ww.take i))), .no, .no, .no]) (by rw [List.take_zero]; rfl) fun i hi => ?_) (sx_ret (ev_c rfl))
  refine ⟨_, tg_name, ?_⟩
  try dsimp only
  have ei : ww[i]? = some ww[i] := List.getElem?_eq_getElem hi
  have ati : atI (ww.map PyData.int) (i : Int) = some (.int ww[i]) := atI_nat' (by rw [List.getElem?_map, ei]; rfl)
  have ehk := heldW_take (m := m) ei
  have hok := (heldW_ok hm.1 (ww.take i)).1
  have prev : (0 : Int) < i → ∃ a, atI (ww.map PyData.int) ((i : Int) - 1) = some (.int a) ∧ (ww[i], taken m.ks ww[i] (heldW m (ww.take i))) ∈ stepsS m (a, heldW m (ww.take i)) := fun h => by
    obtain ⟨j, rfl⟩ : ∃ j, i = j + 1 := ⟨i - 1, by omega⟩
    have ej : ww[j]? = some ww[j] := List.getElem?_eq_getElem (by omega)
    have e : (((j + 1 : Nat) : Int) - 1) = (j : Int) := by omega
    refine ⟨ww[j], ?_, hw j ww[j] ww[j + 1] ej ei⟩
    rw [e]
    exact atI_nat' (by rw [List.getElem?_map, ej]; rfl)
  rw [ehk]
  generalize ww[i] = y at ati prev
  generalize heldW m (ww.take i) = hd at prev hok
  have g0 : ∀ {env : List SV}, env[2]? = some (.dat (intsD ww)) → env[6]? = some (.dat (.int i)) → Ev K (tOp (rIxL K) (tVar 2) (tVar 6)) env (.int y) := fun h2 h6 => ev_ixL (ev_var h2) (ev_var h6) ati
  refine .inl (sx_seq (sx_no (EvT.is (b := !true) (et_not (et_B (ev_call (ea_cons (g0 rfl rfl) ea_nil) ⟨y, rfl, rfl⟩))) rfl) sx_next) ?_)
  refine sx_seq (sx_set (d := stateD (y, taken m.ks y hd)) (ev_tup (ea_cons (g0 rfl rfl) (ea_cons (ev_call (ea_cons (ev_var rfl) (ea_cons (g0 rfl rfl) (ea_cons (ev_var rfl) ea_nil))) ⟨m.ks, y, hd, ⟨hm.1, hok⟩, rfl, rfl⟩) ea_nil)) (Nat.le_of_ble_eq_true rfl))) ?_
  refine sx_ifs (env1 := [.dat (.list (m.ds.map doorD)), .dat (.list (m.ks.map keyD)), .dat (intsD ww), .dat (.int s0), .dat (.int g), .dat (handD hd), .dat (.int i), .dat (stateD (y, taken m.ks y hd)), .no]) (b := decide ((0 : Int) < i)) (et_test (by exact ev_I0 (ev_var rfl) (ev_c rfl) rfl)) (fun c => ?_) (fun c => sx_next) ?_
  · obtain ⟨a, a1, a2⟩ := prev (of_decide_eq_true c)
    refine nx_less (sx_seq (sx_set (d := .list ((stepsS m (a, hd)).map stateD)) (EvO.ev (eo_call (ea_cons (ev_var rfl) (ea_cons (ev_var rfl) (ea_cons (ev_ixL (ev_var (i := 2) rfl) (ev_I0 (ev_var rfl) (ev_c rfl) rfl) a1) (ea_cons (ev_var rfl) ea_nil)))) ⟨m, a, hd, ⟨hm, hok⟩, rfl, rfl⟩))) (sx_no (EvT.is (et_test (ev_notInD (d := stateD (y, taken m.ks y hd)) (ev_var rfl) (ev_var rfl) ((sh_state _).shaped (by decide)) ((sh_states _).shaped (by decide)))) ?_) sx_next)) (by walk_at "less")
    have : ((stepsS m (a, hd)).map stateD).any (fun z => PyData.eqv z (stateD (y, taken m.ks y hd))) = true := List.any_eq_true.mpr ⟨_, List.mem_map.mpr ⟨_, a2, rfl⟩, by
      rw [eqv_dec (sh_state _) (sh_state _) (p := True) ⟨fun _ => rfl, fun _ => trivial⟩]; rfl⟩
    rw [this]; rfl
  · exact nx_less (sx_set (d := handD (taken m.ks y hd)) (ev_ixT (ds := [.int y, handD (taken m.ks y hd)]) (ev_var (i := 7) rfl) (ev_c rfl) rfl)) (by walk_at "less")

/-! none shorter: the program's layers, gone through -/
def ahM (m : Maze) (s : Int) : Nat → List (State × Bool)
  | 0 => []
  | k + 1 => putAll (ahM m s k) (lyr m s k ++ lyr m s (k + 1))
theorem ahM_ok (m : Maze) (s : Int) : ∀ k, ((ahM m s k).map (·.1)).Nodup ∧ (0 < k → ∀ x, x ∈ (ahM m s k).map (·.1) ↔ ∃ j ≤ k, x ∈ lyr m s j)
  | 0 => ⟨List.nodup_nil, fun z => absurd z (Nat.lt_irrefl 0)⟩
  | k + 1 => by
    obtain ⟨i1, i2⟩ := ahM_ok m s k
    obtain ⟨p1, p2⟩ := putAll_ok (ahM m s k) (lyr m s k ++ lyr m s (k + 1)) i1
    refine ⟨p1, fun _ x => ?_⟩
    show x ∈ (putAll (ahM m s k) (lyr m s k ++ lyr m s (k + 1))).map (·.1) ↔ _
    rw [p2, List.mem_append]
    constructor
    · rintro (z | z | z)
      · rcases Nat.eq_zero_or_pos k with c | c
        · subst c; cases z
        · obtain ⟨j, j1, j2⟩ := (i2 c x).mp z
          exact ⟨j, by omega, j2⟩
      · exact ⟨k, by omega, z⟩
      · exact ⟨k + 1, Nat.le_refl _, z⟩
    · rintro ⟨j, j1, j2⟩
      by_cases c : j = k + 1
      · exact .inr (.inr (c ▸ j2))
      · by_cases d : j = k
        · exact .inr (.inl (d ▸ j2))
        · exact .inl ((i2 (by omega) x).mpr ⟨j, by omega, j2⟩)
def R_none (ds : List PyData) (d : PyData) : Prop := ∃ (m : Maze) (s g : Int) (N t : Nat), (okMaze m ∧ inRoom m.n s ∧ m.n ≤ 60 ∧ IsEnd m s N ∧ t < N ∧ ∀ e ∈ (layP m s t).1, e.1.1 ≠ g) ∧ ds = [.list (m.ds.map doorD), .list (m.ks.map keyD), .list (layD m s N), stateD (st0 m s), .int g, .int t] ∧ d = .bool true
theorem ok_l_none_shorter (T : Txt K mg A) : FnOk P w K mg base CX0 4 A.a_l_none_shorter A.d_l_none_shorter ["_law_doors_here", "_law_lying_here", "_law_rows", "_law_first", "_law_goal_here", "_law_many_here"] (spG K R_none) := by
  refine T.f_l_none_shorter.ok sc_l_none_shorter (fun vs H Q E h => ?_) (fun cdv Ar outer s H vs Q E hr h => ?_)
  · obtain ⟨H0, ds, d, sm, dv, ⟨m, s0, g, N, t, _, rfl, _⟩, _⟩ := h; exact dpa_len dv
  obtain ⟨H0, ds, d, sm, dv, ⟨m, s0, g, N, t, ⟨hm, hs, h60, hE, htN, hgo⟩, rfl, rfl⟩, q⟩ := h
  refine ⟨_, (pss_cons (ps_if (PW.pt (pw_or (pt_not (pt_val (pe_callB (r := rIsi K) (by exact call_isi) (by rfl) T.u_isinstance (by decide +kernel) (pa_cons (pv 2) (pa_cons (pe_bltn (v := .ty "list") (by rfl) T.u_list (by decide +kernel) rfl) pa_nil))))) (pw_or1 (pt_cmpR op_le (pe_callB call_len_seq (by rfl) T.u_len (by decide +kernel) (pa_cons (pv 2) pa_nil)) (pv 5) (nomark _))))) (pss_one (ps_ret pe_bl)) pss_nil)
      (pss_cons (ps_for PassesOwn.never rfl (pi_list (pv 2)) (pg_name (i := 6) sc_l_none_shorter.nd rfl (Or.inl rfl))
        (pss_cons (ps_if (pt_not (pt_val (pe_callB (r := rIsi K) (by exact call_isi) (by rfl) T.u_isinstance (by decide +kernel) (pa_cons (pv 6) (pa_cons (pe_bltn (v := .ty "list") (by rfl) T.u_list (by decide +kernel) rfl) pa_nil))))) (pss_one (ps_ret pe_bl)) pss_nil)
      (pss_one (ps_for PassesOwn.never rfl (pi_list (pv 6)) (pg_name (i := 7) sc_l_none_shorter.nd rfl (Or.inl rfl))
        (pss_one (ps_if (pt_not (pt_val (pe_callS (E := fun _ => E0) (ok_l_is_state T) (hr.mono (by decide)) rfl T.g_l_is_state T.f_l_is_state.kp (b_l_is_state T) (fun σ => pass0S) (pa_cons (pv 7) pa_nil)))) (pss_one (ps_ret pe_bl)) pss_nil))))))
      (pss_cons (ps_if (pt_cmpR (r := rNotInD K) (by exact (op_notInD (u65 hr))) (pv 3) (pe_ix (r := rIxL K) (by exact ix_list) (pv 2) pe_int (fun _ _ => rfl)) (by rfl)) (pss_one (ps_ret pe_bl)) pss_nil)
      (pss_cons (ps_set (i := 8) sc_l_none_shorter.nd rfl (.inl rfl) pe_newX)
      (pss_cons (ps_for PassesOwn.never rfl (pi_range1 rfl T.u_range (pa_cons (pv 5) pa_nil)) (pg_name (i := 9) sc_l_none_shorter.nd rfl (Or.inl rfl))
        (pss_cons (ps_for PassesOwn.never rfl (pi_list (pe_op (r := rCatL K) (by exact op_catL) (pe_ix (r := rIxL K) (by exact ix_list) (pv 2) (pv 9) (fun _ _ => rfl)) (pe_ix (r := rIxL K) (by exact ix_list) (pv 2) (pe_op op_add (pv 9) pe_int) (fun _ _ => rfl)))) (pg_name (i := 7) sc_l_none_shorter.nd rfl (Or.inl rfl))
        (pss_one (ps_asg pe_bl (pg_sub (pv 8) (pv 7) (set_X (u65 hr))))))
      (pss_one (ps_for PassesOwn.never rfl (pi_list (pe_ix (r := rIxL K) (by exact ix_list) (pv 2) (pv 9) (fun _ _ => rfl))) (pg_name (i := 7) sc_l_none_shorter.nd rfl (Or.inl rfl))
        (pss_cons (ps_if (pt_cmpR op_eq (pe_ix (r := rIxT K) (by exact ix_tup) (pv 7) pe_int (fun _ _ => rfl)) (pv 4) (nomark _)) (pss_one (ps_ret pe_bl)) pss_nil)
      (pss_one (ps_for PassesOwn.never rfl (pi_list (pe_callS (E := fun _ => E0) (ok_l_steps T) (hr.mono (by decide)) rfl T.g_l_steps T.f_l_steps.kp (b_l_steps T) (fun σ => pass0S) (pa_cons (pv 0) (pa_cons (pv 1) (pa_cons (pe_ix (r := rIxT K) (by exact ix_tup) (pv 7) pe_int (fun _ _ => rfl)) (pa_cons (pe_ix (r := rIxT K) (by exact ix_tup) (pv 7) pe_int (fun _ _ => rfl)) pa_nil)))))) (pg_name (i := 10) sc_l_none_shorter.nd rfl (Or.inl rfl))
        (pss_one (ps_if (pt_cmpR (r := rInX P w K true) (by exact (op_notInX (u65 hr))) (pv 10) (pv 8) (by rfl)) (pss_one (ps_ret pe_bl)) pss_nil)))))))))
      (pss_one (ps_ret pe_bl))))))), ?_⟩
  refine Pf.run (X := fun _ _ _ _ => False) (oc := .rt (.bool true)) sm dv rfl ?_ q
  have many := end_small hm hs h60 hE
  have len : (layD m s0 N).length = N := by unfold layD; rw [List.length_map, List.length_range]
  have row : ∀ k, k < N → (layD m s0 N)[k]? = some (.list ((lyr m s0 k).map stateD)) := fun k hk => by
    unfold layD
    rw [List.getElem?_map, List.getElem?_range hk]; rfl
  refine sx_seq (sx_no (EvT.is (b := !true || decide ((N : Int) ≤ t)) (et_or (et_not (et_B (ev_isi (n := "list") (ev_var (i := 2) rfl) (kit_ty (by decide +kernel))))) fun _ => EvT.is (et_test (by exact ev_I0 (d := .bool (decide (((layD m s0 N).length : Int) ≤ t))) (ev_len (ev_var (i := 2) rfl)) (ev_var rfl) rfl)) (by rw [len])) (by rw [decide_eq_false (by omega)]; rfl)) sx_next) ?_
  refine sx_seq (sx_for (ds := layD m s0 N) (ev_var rfl) (fun i => [.dat (.list (m.ds.map doorD)), .dat (.list (m.ks.map keyD)), .dat (.list (layD m s0 N)), .dat (stateD (st0 m s0)), .dat (.int g), .dat (.int t), .no, .no, .no, .no, .no]) rfl fun i d hi => ?_) ?_
  · have il : i < N := by
      have := (List.getElem?_eq_some_iff.mp hi).1
      rw [len] at this; exact this
    rw [row i il] at hi
    obtain rfl := Option.some.inj hi
    refine ⟨_, tg_name, ?_⟩
    try dsimp only
    refine .inl (sx_seq (sx_no (EvT.is (b := !true) (et_not (et_B (ev_isi (n := "list") (d := .list ((lyr m s0 i).map stateD)) (ev_var rfl) (kit_ty (by decide +kernel))))) rfl) sx_next) ?_)
    refine nx_less (sx_for (ds := (lyr m s0 i).map stateD) (ev_var rfl) (fun j => [.dat (.list (m.ds.map doorD)), .dat (.list (m.ks.map keyD)), .dat (.list (layD m s0 N)), .dat (stateD (st0 m s0)), .dat (.int g), .dat (.int t), .dat (.list ((lyr m s0 i).map stateD)), .no, .no, .no, .no]) rfl fun j d hj => ?_) (by walk_at "less")
    obtain ⟨x, _, rfl⟩ := List.mem_map.mp (List.mem_of_getElem? hj)
    refine ⟨_, tg_name, ?_⟩
    try dsimp only
    exact go_less (sx_no (EvT.is (b := !true) (et_not (et_B (ev_call (ea_cons (ev_var rfl) ea_nil) ⟨x, rfl, rfl⟩))) rfl) sx_next) (by walk_at "less")
  · have at0 : atI (layD m s0 N) 0 = some (.list [stateD (st0 m s0)]) := by
      have := row 0 (by omega)
      rw [lyr_zero] at this
      exact atI_nat' (j := 0) this
    refine sx_seq (sx_no (EvT.is (et_test (ev_notInD (d := stateD (st0 m s0)) (ev_var rfl) (ev_ixL (ev_var (i := 2) rfl) (ev_c rfl) at0) ((sh_state _).shaped (by decide)) ((sh_states [st0 m s0]).shaped (by decide)))) ?_) sx_next) ?_
    · have : [stateD (st0 m s0)].any (fun z => PyData.eqv z (stateD (st0 m s0))) = true := List.any_eq_true.mpr ⟨_, List.mem_singleton.mpr rfl, by
        rw [eqv_dec (sh_state _) (sh_state _) (p := True) ⟨fun _ => rfl, fun _ => trivial⟩]; rfl⟩
      rw [this]; rfl
    refine sx_seq (sx_newX (P := P) (w := w)) ?_
    refine sx_seq (sx_forR1 (k := (t : Int)) (n := t) (ea_cons (ev_var rfl) ea_nil) (by omega) (by omega) (fun k => [.dat (.list (m.ds.map doorD)), .dat (.list (m.ks.map keyD)), .dat (.list (layD m s0 N)), .dat (stateD (st0 m s0)), .dat (.int g), .dat (.int t), .no, .no, .dct P w (kvsE .bool (ahM m s0 k)), .no, .no]) rfl fun k hk => ?_) (sx_ret (ev_c rfl))
    refine ⟨_, tg_name, ?_⟩
    try dsimp only
    have atk : atI (layD m s0 N) (k : Int) = some (.list ((lyr m s0 k).map stateD)) := atI_nat' (row k (by omega))
    have atk1 : atI (layD m s0 N) ((k : Int) + 1) = some (.list ((lyr m s0 (k + 1)).map stateD)) := by
      have := atI_nat' (row (k + 1) (by omega))
      exact this
    have l1 := lyr_len hm hs h60 k
    have l2 := lyr_len hm hs h60 (k + 1)
    have small : ∀ cs : List State, (∀ x ∈ cs, okState m x) → (putAll (ahM m s0 k) cs).length < 100000 := fun cs hc => by
      obtain ⟨a1, a2⟩ := ahM_ok m s0 k
      obtain ⟨p1, p2⟩ := putAll_ok (ahM m s0 k) cs a1
      have := nodup_le p1 (r := allStates m.n) fun x hx => by
        rcases (p2 x).mp hx with z | z
        · rcases Nat.eq_zero_or_pos k with c | c
          · subst c; cases z
          · obtain ⟨j, _, j2⟩ := (a2 c x).mp z
            exact okState_all (lyr_ok hm hs j2)
        · exact okState_all (hc x z)
      rw [List.length_map, allStates_len] at this
      omega
    refine .inl (sx_seq (sx_for (ds := (lyr m s0 k ++ lyr m s0 (k + 1)).map stateD) (EvO.ev (EvO.is (eo_catD (ev_ixL (ev_var (i := 2) rfl) (ev_var rfl) atk) (ev_ixL (ev_var (i := 2) rfl) (ev_I0 (ev_var rfl) (ev_c rfl) rfl) atk1) (by rw [List.length_map, List.length_map]; omega)) (by rw [List.map_append]))) (fun j => [.dat (.list (m.ds.map doorD)), .dat (.list (m.ks.map keyD)), .dat (.list (layD m s0 N)), .dat (stateD (st0 m s0)), .dat (.int g), .dat (.int t), .no, .no, .dct P w (kvsE .bool (putAll (ahM m s0 k) ((lyr m s0 k ++ lyr m s0 (k + 1)).take j))), .dat (.int k), .no]) (by rw [List.take_zero]; rfl) fun j d hj => ?_) ?_)
    · rw [List.getElem?_map] at hj
      cases ej : (lyr m s0 k ++ lyr m s0 (k + 1))[j]? with
      | none => rw [ej] at hj; cases hj
      | some x =>
        rw [ej] at hj
        obtain rfl := Option.some.inj hj
        have jl := (List.getElem?_eq_some_iff.mp ej).1
        have etk : (lyr m s0 k ++ lyr m s0 (k + 1)).take (j + 1) = (lyr m s0 k ++ lyr m s0 (k + 1)).take j ++ [x] := by rw [List.take_succ_eq_append_getElem jl, (List.getElem?_eq_some_iff.mp ej).2]
        have sm := small ((lyr m s0 k ++ lyr m s0 (k + 1)).take j) fun y hy => by
          rcases List.mem_append.mp (List.mem_of_mem_take hy) with z | z <;> exact lyr_ok hm hs z
        refine ⟨_, tg_name, ?_⟩
        try dsimp only
        have e2 : putAll (ahM m s0 k) ((lyr m s0 k ++ lyr m s0 (k + 1)).take j ++ [x]) = putE (putAll (ahM m s0 k) ((lyr m s0 k ++ lyr m s0 (k + 1)).take j)) x true := by rw [putAll_app]; rfl
        rw [etk, e2, ← putP_E PyData.bool _ x true]
        exact go_less (sx_putX (kS_key x) rfl (fun ds z => by cases z) (ev_c rfl) ((ev_var (i := 7) rfl).is (kS_data x).symm) (by rw [len_E]; exact sm)) (by walk_at "less")
    · have full : (lyr m s0 k ++ lyr m s0 (k + 1)).take ((lyr m s0 k ++ lyr m s0 (k + 1)).map stateD).length = lyr m s0 k ++ lyr m s0 (k + 1) := by rw [List.length_map, List.take_length]
      rw [full]
      have ah := (ahM_ok m s0 (k + 1)).2 (by omega)
      show Sx K _ _ [_, _, _, _, _, _, _, _, .dct P w (kvsE .bool (ahM m s0 (k + 1))), _, _] _
      generalize ahM m s0 (k + 1) = M at ah
      refine nx_less (sx_for (ds := (lyr m s0 k).map stateD) (ev_ixL (ev_var (i := 2) rfl) (ev_var rfl) atk) (fun j => [.dat (.list (m.ds.map doorD)), .dat (.list (m.ks.map keyD)), .dat (.list (layD m s0 N)), .dat (stateD (st0 m s0)), .dat (.int g), .dat (.int t), .no, .no, .dct P w (kvsE .bool M), .dat (.int k), .no]) rfl fun j d hj => ?_) (by walk_at "less")
      obtain ⟨x, hx, rfl⟩ := List.mem_map.mp (List.mem_of_getElem? hj)
      refine ⟨_, tg_name, ?_⟩
      try dsimp only
      have ox := lyr_ok hm hs hx
      have xg : x.1 ≠ g := by
        have : x ∈ (layP m s0 t).1.map (·.1) := (flat_lay m s0 t).mem_iff.mp (List.mem_flatMap.mpr ⟨k, List.mem_range.mpr hk, hx⟩)
        obtain ⟨e, he, rfl⟩ := List.mem_map.mp this
        exact hgo e he
      have x1 : ∀ {env : List SV}, env[7]? = some (.dat (stateD x)) → Ev K (tOp (rIxT K) (tVar 7) (tC (.int 0))) env (.int x.1) := fun h => ev_ixT (ds := [.int x.1, handD x.2]) (ev_var h) (ev_c rfl) rfl
      have x2 : ∀ {env : List SV}, env[7]? = some (.dat (stateD x)) → Ev K (tOp (rIxT K) (tVar 7) (tC (.int 1))) env (handD x.2) := fun h => ev_ixT (ds := [.int x.1, handD x.2]) (ev_var h) (ev_c rfl) rfl
      refine .inl (sx_seq (sx_no (EvT.is (et_test (ev_eqI (x1 rfl) (ev_var rfl))) (decide_eq_false xg)) sx_next) ?_)
      refine nx_less (sx_for (ds := (stepsS m x).map stateD) (EvO.ev (eo_call (ea_cons (ev_var rfl) (ea_cons (ev_var rfl) (ea_cons (x1 rfl) (ea_cons (x2 rfl) ea_nil)))) ⟨m, x.1, x.2, ⟨hm, ox.2.2⟩, rfl, rfl⟩)) (fun i => [.dat (.list (m.ds.map doorD)), .dat (.list (m.ks.map keyD)), .dat (.list (layD m s0 N)), .dat (stateD (st0 m s0)), .dat (.int g), .dat (.int t), .no, .dat (stateD x), .dct P w (kvsE .bool M), .dat (.int k), .no]) rfl fun i d hi => ?_) (by walk_at "less")
      obtain ⟨o, ho, rfl⟩ := List.mem_map.mp (List.mem_of_getElem? hi)
      refine ⟨_, tg_name, ?_⟩
      try dsimp only
      obtain ⟨j', j1, _, j3⟩ := step_lay hE (by omega) hx ho
      have om : o ∈ M.map (·.1) := (ah o).mpr ⟨j', j1, j3⟩
      refine go_less (sx_no (EvT.is (et_test (ev_inX (P := P) (w := w) (neg := true) (kS_key o) ((ev_var (i := 10) rfl).is (kS_data o).symm) (.inl rfl))) ?_) sx_next) (by walk_at "less")
      show (!(atP (kvsE PyData.bool M) (kS o)).isSome) = false
      rw [atP_E, Option.isSome_map, getE_isSome.mpr om]; rfl

/-! the rooms out of which every door is shut -/
def wayB (R : List Int) (y : Int) (held : List Int) (d : Door) : List Bool := (if d.1 = y ∧ d.2.1 ∈ R then [opensF d.2.2 held] else []) ++ (if d.2.1 = y ∧ d.1 ∈ R then [opensF d.2.2 held] else [])
theorem wayB_len (R : List Int) (y : Int) (held : List Int) (d : Door) : (wayB R y held d).length ≤ 2 := by
  unfold wayB
  rw [List.length_append]
  split <;> split <;> simp
theorem ways_len (R : List Int) (y : Int) (held : List Int) : ∀ ds : List Door, (ds.flatMap (wayB R y held)).length ≤ 2 * ds.length
  | [] => Nat.le_refl _
  | d :: t => by
    have := wayB_len R y held d
    have := ways_len R y held t
    rw [List.flatMap_cons, List.length_append, List.length_cons]; omega
theorem way_true {m : Maze} {R : List Int} {y : Int} (h : nextR m R = some y) : true ∈ m.ds.flatMap (wayB R y (heldW m R)) := by
  unfold nextR at h
  cases e : m.ds.find? (goesOn m.ks R) with
  | none => rw [e] at h; cases h
  | some d =>
    rw [e] at h
    have hy : farEnd R d = y := Option.some.inj h
    have h1 := List.mem_of_find?_eq_some e
    have h2 : goesOn m.ks R d = true := List.find?_some e
    unfold goesOn at h2
    rw [Bool.and_eq_true] at h2
    obtain ⟨h3, h4⟩ := h2
    have h5 : opensF d.2.2 (heldW m R) = true := by rw [opens_heldW]; exact h4
    refine List.mem_flatMap.mpr ⟨d, h1, ?_⟩
    unfold wayB
    unfold oneEnd at h3
    unfold farEnd at hy
    by_cases a : d.1 ∈ R
    · rw [if_pos a] at hy
      refine List.mem_append.mpr (.inr ?_)
      rw [if_pos ⟨hy, a⟩, h5]; exact List.mem_singleton.mpr rfl
    · rw [if_neg a] at hy
      have b : d.2.1 ∈ R := Classical.byContradiction fun z => by
        rw [decide_eq_false a, decide_eq_false z] at h3; cases h3
      refine List.mem_append.mpr (.inl ?_)
      rw [if_pos ⟨hy, b⟩, h5]; exact List.mem_singleton.mpr rfl
theorem none_on {m : Maze} {R : List Int} (h : nextR m R = none) {d : Door} (hd : d ∈ m.ds) : (oneEnd R d && opensF d.2.2 (heldW m R)) = false := by
  unfold nextR at h
  rw [Option.map_eq_none_iff, List.find?_eq_none] at h
  have := h d hd
  rw [opens_heldW]
  exact Bool.eq_false_iff.mpr this
def R_shut (ds : List PyData) (d : PyData) : Prop := ∃ (m : Maze) (s g : Int), (okMaze m ∧ inRoom m.n s ∧ m.n ≤ 60 ∧ g ∉ comeR m s) ∧ ds = [.list (m.ds.map doorD), .list (m.ks.map keyD), .tuple [.str shutS, intsD (comeR m s), handD (keysAmong m.ks (comeR m s))], .int s, .int g] ∧ d = .bool true
theorem sh_ints (l : List Int) : Sh 1 (.list (l.map PyData.int)) := sh_lst (sh_map fun _ _ => sh_int)
theorem bools_lay : ∀ l : List Bool, PyData.canLayAll0 (l.map .bool) = true
  | [] => by simp [PyData.canLayAll0]
  | x :: r => by
    have ih := bools_lay r
    show PyData.canLayAll0 (.bool x :: r.map .bool) = true
    simp [PyData.canLayAll0, PyData.canLay0, ih]
theorem bools_deep : ∀ l : List Bool, PyData.depthAll (l.map .bool) = 0
  | [] => by simp [PyData.depthAll]
  | x :: r => by
    have ih := bools_deep r
    show PyData.depthAll (.bool x :: r.map .bool) = 0
    simp [PyData.depthAll, PyData.depth, ih]
theorem bools_shaped (l : List Bool) : SeqAt.shaped (.list (l.map PyData.bool)) = true := by
  show (PyData.canLay0 (.list (l.map PyData.bool)) && decide (PyData.depth (.list (l.map PyData.bool)) ≤ 64)) = true
  simp [PyData.canLay0, PyData.depth, bools_lay, bools_deep]
theorem bool_shaped (b : Bool) : SeqAt.shaped (.bool b) = true := by
  show (PyData.canLay0 (.bool b) && decide (PyData.depth (.bool b) ≤ 64)) = true
  simp [PyData.canLay0, PyData.depth]
theorem ok_l_shut (T : Txt K mg A) : FnOk P w K mg base CX0 3 A.a_l_shut A.d_l_shut ["_law_doors_here", "_law_lying_here", "_law_found", "_law_start", "_law_goal_here"] (spG K R_shut) := by
  refine T.f_l_shut.ok sc_l_shut (fun vs H Q E h => ?_) (fun cdv Ar outer s H vs Q E hr h => ?_)
  · obtain ⟨H0, ds, d, sm, dv, ⟨m, s0, g, _, rfl, _⟩, _⟩ := h; exact dpa_len dv
  obtain ⟨H0, ds, d, sm, dv, ⟨m, s0, g, ⟨hm, hs, h60, hg⟩, rfl, rfl⟩, q⟩ := h
  refine ⟨_, (pss_cons (ps_par (i := 5) (j := 6) (by rfl) sc_l_shut.nd rfl rfl (by decide) rfl rfl (pa_cons (pe_ix (r := rIxT K) (by exact ix_tup) (pv 2) pe_int (fun _ _ => rfl)) (pa_cons (pe_ix (r := rIxT K) (by exact ix_tup) (pv 2) pe_int (fun _ _ => rfl)) pa_nil)) (by rfl))
      (pss_cons (ps_if (PW.pt (pw_or (pt_not (pt_val (pe_callB (r := rIsi K) (by exact call_isi) (by rfl) T.u_isinstance (by decide +kernel) (pa_cons (pv 5) (pa_cons (pe_bltn (v := .ty "list") (by rfl) T.u_list (by decide +kernel) rfl) pa_nil))))) (pw_or (pt_cmpR (r := rEqD K) (by exact (op_eqD hr.units)) (pv 5) (pe_lst pa_nil) (nomark _)) (pw_or (pt_cmpR op_ne (pe_ix (r := rIxL K) (by exact ix_list) (pv 5) pe_int (fun _ _ => rfl)) (pv 3) (nomark _)) (pw_or1 (pt_cmpR (r := rIn K false) (by exact op_in_seq) (pv 4) (pv 5) (by rfl))))))) (pss_one (ps_ret pe_bl)) pss_nil)
      (pss_cons (ps_set (i := 7) sc_l_shut.nd rfl (.inl rfl) (pe_tup pa_nil))
      (pss_cons (ps_for PassesOwn.never rfl (pi_range1 rfl T.u_range (pa_cons (pe_callB call_len_seq (by rfl) T.u_len (by decide +kernel) (pa_cons (pv 5) pa_nil)) pa_nil)) (pg_name (i := 8) sc_l_shut.nd rfl (Or.inl rfl))
        (pss_cons (ps_if (PW.pt (pw_or (pt_not (pt_val (pe_callS (E := fun _ => E0) (ok_l_whole T) (hr.mono (by decide)) rfl T.g_l_whole T.f_l_whole.kp (b_l_whole T) (fun σ => pass0S) (pa_cons (pe_ix (r := rIxL K) (by exact ix_list) (pv 5) (pv 8) (fun _ _ => rfl)) pa_nil)))) (pw_or1 (pt_cmpR (r := rIn K false) (by exact op_in_seq) (pe_ix (r := rIxL K) (by exact ix_list) (pv 5) (pv 8) (fun _ _ => rfl)) (pe_slice (r := rSlL K) (by exact sl_list) (pv 5) po_none (po_some (pv 8))) (by rfl))))) (pss_one (ps_ret pe_bl)) pss_nil)
      (pss_cons (ps_if (pt_cmpR op_gt (pv 8) pe_int (nomark _)) (pss_cons (ps_set (i := 9) sc_l_shut.nd rfl (.inl rfl) (pe_lst pa_nil))
      (pss_cons (ps_for PassesOwn.never rfl (pi_list (pv 0)) (pg_tup rfl (pgs_cons (pg_name (i := 10) sc_l_shut.nd rfl (Or.inl rfl)) (pgs_cons (pg_name (i := 11) sc_l_shut.nd rfl (Or.inl rfl)) (pgs_cons (pg_name (i := 12) sc_l_shut.nd rfl (Or.inl rfl)) pgs_nil))))
        (pss_cons (ps_if (PW.pt (pw_and (pt_cmpR op_eq (pv 10) (pe_ix (r := rIxL K) (by exact ix_list) (pv 5) (pv 8) (fun _ _ => rfl)) (nomark _)) (pw_and1 (pt_cmpR (r := rIn K false) (by exact op_in_seq) (pv 11) (pe_slice (r := rSlL K) (by exact sl_list) (pv 5) po_none (po_some (pv 8))) (by rfl))))) (pss_one (ps_expr (pe_bm PySem.F.plainAttrs_list PySem.F.slot_list_append PySem.F.type_list_append mt_append (pv 9) (pa_cons (pe_or (pe_cmpR op_isN (pv 12) pe_non (nomark _)) (pe_one (pe_cmpR (r := rIn K false) (by exact op_in_seq) (pv 12) (pv 7) (by rfl)))) pa_nil)))) pss_nil)
      (pss_one (ps_if (PW.pt (pw_and (pt_cmpR op_eq (pv 11) (pe_ix (r := rIxL K) (by exact ix_list) (pv 5) (pv 8) (fun _ _ => rfl)) (nomark _)) (pw_and1 (pt_cmpR (r := rIn K false) (by exact op_in_seq) (pv 10) (pe_slice (r := rSlL K) (by exact sl_list) (pv 5) po_none (po_some (pv 8))) (by rfl))))) (pss_one (ps_expr (pe_bm PySem.F.plainAttrs_list PySem.F.slot_list_append PySem.F.type_list_append mt_append (pv 9) (pa_cons (pe_or (pe_cmpR op_isN (pv 12) pe_non (nomark _)) (pe_one (pe_cmpR (r := rIn K false) (by exact op_in_seq) (pv 12) (pv 7) (by rfl)))) pa_nil)))) pss_nil))))
      (pss_one (ps_if (pt_cmpR (r := rNotInD K) (by exact (op_notInD (u65 hr))) pe_bl (pv 9) (by rfl)) (pss_one (ps_ret pe_bl)) pss_nil)))) pss_nil)
      (pss_one (ps_set (i := 7) sc_l_shut.nd rfl (.inl rfl) (pe_callS (E := fun _ => E0) (ok_l_taken T) (hr.mono (by decide)) rfl T.g_l_taken T.f_l_taken.kp (b_l_taken T) (fun σ => pass0S) (pa_cons (pv 1) (pa_cons (pe_ix (r := rIxL K) (by exact ix_list) (pv 5) (pv 8) (fun _ _ => rfl)) (pa_cons (pv 7) pa_nil)))))))))
      (pss_cons (ps_for PassesOwn.never rfl (pi_list (pv 0)) (pg_tup rfl (pgs_cons (pg_name (i := 10) sc_l_shut.nd rfl (Or.inl rfl)) (pgs_cons (pg_name (i := 11) sc_l_shut.nd rfl (Or.inl rfl)) (pgs_cons (pg_name (i := 12) sc_l_shut.nd rfl (Or.inl rfl)) pgs_nil))))
        (pss_one (ps_if (PW.pt (pw_and (pt_cmpR op_ne (pe_cmpR (r := rIn K false) (by exact op_in_seq) (pv 10) (pv 5) (by rfl)) (pe_cmpR (r := rIn K false) (by exact op_in_seq) (pv 11) (pv 5) (by rfl)) (nomark _)) (pw_and1 (PW.pt (pw_or (pt_cmpR op_isN (pv 12) pe_non (nomark _)) (pw_or1 (pt_cmpR (r := rIn K false) (by exact op_in_seq) (pv 12) (pv 7) (by rfl)))))))) (pss_one (ps_ret pe_bl)) pss_nil)))
      (pss_one (ps_ret (pe_callS (E := fun _ => E0) (ok_l_hand T) (hr.mono (by decide)) rfl T.g_l_hand T.f_l_hand.kp (b_l_hand T) (fun σ => pass0S) (pa_cons (pv 6) (pa_cons (pv 7) pa_nil)))))))))), ?_⟩
  refine Pf.run (X := fun _ _ _ _ => False) (oc := .rt (.bool true)) sm dv rfl ?_ q
  obtain ⟨c1, c2, ⟨t, c3⟩, c4⟩ := comeR_is hm hs
  have cl := comeR_len hm hs
  have cks := heldW_among hm.1 (comeR m s0)
  generalize comeR m s0 = C at c1 c2 c3 c4 cl cks hg
  have wl : (C.map PyData.int).length = C.length := List.length_map _
  have fnd : ∀ {env : List SV} {k : Int} {d : PyData}, env[2]? = some (.dat (.tuple [.str shutS, intsD C, handD (keysAmong m.ks C)])) → atI [PyData.str shutS, intsD C, handD (keysAmong m.ks C)] k = some d → Ev K (tOp (rIxT K) (tVar 2) (tC (.int k))) env d := fun h2 hk => ev_ixT (ev_var h2) (ev_c rfl) hk
  refine sx_seq (sx_par (d := intsD C) (e := handD (keysAmong m.ks C)) (ea_cons (fnd rfl rfl) (ea_cons (fnd rfl rfl) ea_nil))) ?_
  have at0 : atI (C.map PyData.int) 0 = some (.int s0) := atI_nat' (j := 0) (by rw [c3]; rfl)
  refine sx_seq (sx_no (EvT.is (b := !true || (PyData.eqv (intsD C) (.list []) || (!decide (s0 = s0) || decide (g ∈ C)))) (et_or (et_not (et_B (ev_isi (n := "list") (d := intsD C) (ev_var (i := 5) rfl) (kit_ty (by decide +kernel))))) fun _ => et_or (et_test (ev_eqD (ev_var (i := 5) rfl) (ev_lst ea_nil (Nat.le_of_ble_eq_true rfl)) ((sh_ints C).shaped (by decide)) ((sh_ints []).shaped (by decide)))) fun _ => et_or (et_test (ev_neI (ev_ixL (ds := C.map PyData.int) (ev_var (i := 5) rfl) (ev_c rfl) at0) (ev_var rfl))) fun _ => EvT.is (et_test (ev_inL (ds := C.map .int) (ev_var rfl) (ev_var (i := 5) rfl) rfl (ints_flat _))) (by rw [ints_any])) ?_) sx_next) ?_
  · have e0 : PyData.eqv (intsD C) (.list []) = decide False := eqv_dec (sh_ints C) (sh_ints []) (p := False) ⟨fun z => z.elim, fun z => ?_⟩
    · rw [e0, decide_eq_true rfl, decide_eq_false hg]; rfl
    · have h0 : C.map PyData.int = [] := PyData.list.inj z
      rw [h0] at wl
      have w0 : (0 : Nat) = C.length := wl
      have := cl.1
      omega
  refine sx_seq (sx_set (d := handD []) (ev_tup ea_nil (by decide))) ?_
  have cs : C.length ≤ 60 := by have := cl.2; omega
  refine sx_seq (sx_forR1 (n := C.length) (ea_cons (ev_len (xs := C.map PyData.int) (ev_var (i := 5) rfl)) ea_nil) (by rw [wl]; omega) (by rw [wl]; omega) (fun i => [.dat (.list (m.ds.map doorD)), .dat (.list (m.ks.map keyD)), .dat (.tuple [.str shutS, intsD C, handD (keysAmong m.ks C)]), .dat (.int s0), .dat (.int g), .dat (intsD C), .dat (handD (keysAmong m.ks C)), .dat (handD (heldW m (C.take i))), .no, .no, .no, .no, .no]) (by rw [List.take_zero]; rfl) fun i hi => ?_) ?_
  · refine ⟨_, tg_name, ?_⟩
    try dsimp only
    have ei : C[i]? = some C[i] := List.getElem?_eq_getElem hi
    have ati : atI (C.map PyData.int) (i : Int) = some (.int C[i]) := atI_nat' (by rw [List.getElem?_map, ei]; rfl)
    have ehk := heldW_take (m := m) ei
    have hok := (heldW_ok hm.1 (C.take i)).1
    have new : C[i] ∉ C.take i := fun z => by
      have nd := c1.1
      rw [← List.take_append_drop i C, List.drop_eq_getElem_cons hi] at nd
      exact (List.nodup_append.mp nd).2.2 _ z _ List.mem_cons_self rfl
    have next : 0 < i → nextR m (C.take i) = some C[i] := fun z => c4 i _ z ei
    have cut : ∀ {env : List SV}, env[5]? = some (.dat (intsD C)) → env[8]? = some (.dat (.int i)) → Ev K _ env (.list ((C.take i).map .int)) := fun {env} h5 h8 => EvO.ev (EvO.is (eo_slice (xs := C.map .int) (ev_var (i := 5) h5) ep_no (ep_at (ev_var (i := 8) h8))) (ys := (C.take i).map .int) (by
      have := cutD_nat (C.map PyData.int) 0 i (Nat.zero_le _)
      rw [List.map_take]; exact this))
    rw [ehk]
    have hwt : ∀ z, 0 < i → nextR m (C.take i) = some z → true ∈ m.ds.flatMap (wayB (C.take i) z (heldW m (C.take i))) := fun z _ h => way_true h
    generalize C[i] = y at ati new next
    generalize heldW m (C.take i) = hd at hok hwt
    have g0 : ∀ {env : List SV}, env[5]? = some (.dat (intsD C)) → env[8]? = some (.dat (.int i)) → Ev K (tOp (rIxL K) (tVar 5) (tVar 8)) env (.int y) := fun h5 h8 => ev_ixL (ds := C.map .int) (ev_var h5) (ev_var h8) ati
    refine .inl (sx_seq (sx_no (EvT.is (b := !true || decide (y ∈ C.take i)) (et_or (et_not (et_B (ev_call (ea_cons (g0 rfl rfl) ea_nil) ⟨y, rfl, rfl⟩))) fun _ => EvT.is (et_test (ev_inL (ds := (C.take i).map .int) (g0 rfl rfl) (cut rfl rfl) rfl (ints_flat _))) (by rw [ints_any])) (by rw [decide_eq_false new]; rfl)) sx_next) ?_)
    refine sx_ifs (env1 := [.dat (.list (m.ds.map doorD)), .dat (.list (m.ks.map keyD)), .dat (.tuple [.str shutS, intsD C, handD (keysAmong m.ks C)]), .dat (.int s0), .dat (.int g), .dat (intsD C), .dat (handD (keysAmong m.ks C)), .dat (handD hd), .dat (.int i), .no, .no, .no, .no]) (b := decide ((0 : Int) < i)) (et_test (by exact ev_I0 (ev_var rfl) (ev_c rfl) rfl)) (fun c => ?_) (fun c => sx_next) ?_
    · have i0 : 0 < i := by have := of_decide_eq_true c; omega
      have wt := hwt y i0 (next i0)
      have wlen := ways_len (C.take i) y hd m.ds
      refine sx_seq (sx_setO (eo_lst ea_nil (by decide))) ?_
      refine sx_seq (sx_for (ds := m.ds.map doorD) (ev_var rfl) (fun j => [.dat (.list (m.ds.map doorD)), .dat (.list (m.ks.map keyD)), .dat (.tuple [.str shutS, intsD C, handD (keysAmong m.ks C)]), .dat (.int s0), .dat (.int g), .dat (intsD C), .dat (handD (keysAmong m.ks C)), .dat (handD hd), .dat (.int i), .own (((m.ds.take j).flatMap (wayB (C.take i) y hd)).map .bool), .no, .no, .no]) (by rw [List.take_zero]; rfl) fun j d hj => ?_) ?_
      · rw [List.getElem?_map] at hj
        cases ej : m.ds[j]? with
        | none => rw [ej] at hj; cases hj
        | some x =>
          rw [ej] at hj
          obtain rfl := Option.some.inj hj
          have jl := (List.getElem?_eq_some_iff.mp ej).1
          have etk : m.ds.take (j + 1) = m.ds.take j ++ [x] := by rw [List.take_succ_eq_append_getElem jl, (List.getElem?_eq_some_iff.mp ej).2]
          have small : ((m.ds.take j).flatMap (wayB (C.take i) y hd)).length + 2 ≤ 2002 := by
            have := ways_len (C.take i) y hd (m.ds.take j)
            rw [List.length_take] at this
            have := hm.2.1
            omega
          refine ⟨_, tg_tup (ds := [.int x.1, .int x.2.1, optD x.2.2]) (tgs_cons tg_name (tgs_cons tg_name (tgs_cons tg_name tgs_nil))) rfl, ?_⟩
          try dsimp only
          rw [etk, List.flatMap_append, List.flatMap_cons, List.flatMap_nil, List.append_nil]
          generalize (m.ds.take j).flatMap (wayB (C.take i) y hd) = Z at small
          have lockE : ∀ {env : List SV}, env[12]? = some (.dat (optD x.2.2)) → env[7]? = some (.dat (handD hd)) → Ev K _ env (.bool (opensF x.2.2 hd)) := fun {env} h12 h7 => (ev_orV (ev_isN (ev_var (i := 12) h12)) fun _ => ev_inT (ds := hd.map .int) (ev_var (i := 12) h12) (ev_var (i := 7) h7) (optD_flat _) (ints_flat _)).is (by rw [opt_any])
          unfold wayB
          rw [← List.append_assoc, List.map_append]
          have one : ∀ {env : List SV} {j' k' : Nat} {a b : Int}, env[5]? = some (.dat (intsD C)) → env[8]? = some (.dat (.int i)) → env[j']? = some (.dat (.int a)) → env[k']? = some (.dat (.int b)) → EvT K _ env (decide (a = y) && decide (b ∈ C.take i)) := fun {env j' k' a b} h5 h8 ha hb => et_and (et_test (ev_eqI (ev_var (i := j') ha) (g0 h5 h8))) fun _ => EvT.is (et_test (ev_inL (ds := (C.take i).map .int) (ev_var (i := k') hb) (cut h5 h8) rfl (ints_flat _))) (by rw [ints_any])
          refine .inl (sx_ifs (env1 := [.dat (.list (m.ds.map doorD)), .dat (.list (m.ks.map keyD)), .dat (.tuple [.str shutS, intsD C, handD (keysAmong m.ks C)]), .dat (.int s0), .dat (.int g), .dat (intsD C), .dat (handD (keysAmong m.ks C)), .dat (handD hd), .dat (.int i), .own ((Z ++ if x.1 = y ∧ x.2.1 ∈ C.take i then [opensF x.2.2 hd] else []).map .bool), .dat (.int x.1), .dat (.int x.2.1), .dat (optD x.2.2)]) (b := decide (x.1 = y) && decide (x.2.1 ∈ C.take i)) (one (j' := 10) (k' := 11) rfl rfl rfl rfl) (fun c => ?_) (fun c => ?_) ?_)
          · rw [Bool.and_eq_true, decide_eq_true_eq, decide_eq_true_eq] at c
            rw [if_pos c, List.map_append]
            exact sx_app (d := .bool (opensF x.2.2 hd)) rfl (lockE rfl rfl) (by rw [List.length_map]; omega)
          · have c' : ¬ (x.1 = y ∧ x.2.1 ∈ C.take i) := fun z => by
              rw [decide_eq_true z.1, decide_eq_true z.2] at c; cases c
            rw [if_neg c', List.append_nil]
            exact sx_next
          · have sz2 : (Z ++ if x.1 = y ∧ x.2.1 ∈ C.take i then [opensF x.2.2 hd] else []).length ≤ 2001 := by
              rw [List.length_append]
              split <;> (simp only [List.length_cons, List.length_nil]; omega)
            generalize (Z ++ if x.1 = y ∧ x.2.1 ∈ C.take i then [opensF x.2.2 hd] else []) = Z2 at sz2
            refine sx_if (b := decide (x.2.1 = y) && decide (x.1 ∈ C.take i)) (one (j' := 11) (k' := 10) rfl rfl rfl rfl) (fun c => ?_) fun c => ?_
            · rw [Bool.and_eq_true, decide_eq_true_eq, decide_eq_true_eq] at c
              rw [if_pos c]
              exact nx_less (sx_app (d := .bool (opensF x.2.2 hd)) rfl (lockE rfl rfl) (by rw [List.length_map]; omega)) (by walk_at "less")
            · have c' : ¬ (x.2.1 = y ∧ x.1 ∈ C.take i) := fun z => by
                rw [decide_eq_true z.1, decide_eq_true z.2] at c; cases c
              rw [if_neg c', List.map_nil, List.append_nil]
              exact nx_less sx_next (by walk_at "less")
      · rw [List.length_map, List.take_length]
        generalize m.ds.flatMap (wayB (C.take i) y hd) = Z at wt
        refine nx_less (sx_no (et_fix 9 rfl (EvT.is (et_test (ev_notInD (d := .bool true) (ds := Z.map .bool) (ev_c rfl) (ev_var (i := 9) rfl) (bool_shaped true) (bools_shaped Z))) ?_)) sx_next) (by walk_at "less")
        have : (Z.map PyData.bool).any (fun z => PyData.eqv z (.bool true)) = true := List.any_eq_true.mpr ⟨_, List.mem_map.mpr ⟨true, wt, rfl⟩, by rfl⟩
        rw [this]; rfl
    · exact nx_less (sx_set (d := handD (taken m.ks y hd)) (ev_call (ea_cons (ev_var rfl) (ea_cons (g0 rfl rfl) (ea_cons (ev_var rfl) ea_nil))) ⟨m.ks, y, hd, ⟨hm.1, hok⟩, rfl, rfl⟩)) (by walk_at "less")
  · rw [List.take_length]
    refine sx_seq (sx_for (ds := m.ds.map doorD) (ev_var rfl) (fun j => [.dat (.list (m.ds.map doorD)), .dat (.list (m.ks.map keyD)), .dat (.tuple [.str shutS, intsD C, handD (keysAmong m.ks C)]), .dat (.int s0), .dat (.int g), .dat (intsD C), .dat (handD (keysAmong m.ks C)), .dat (handD (heldW m C)), .no, .no, .no, .no, .no]) rfl fun j d hj => ?_) ?_
    · obtain ⟨x, hx, rfl⟩ := List.mem_map.mp (List.mem_of_getElem? hj)
      refine ⟨_, tg_tup (ds := [.int x.1, .int x.2.1, optD x.2.2]) (tgs_cons tg_name (tgs_cons tg_name (tgs_cons tg_name tgs_nil))) rfl, ?_⟩
      try dsimp only
      have no := none_on c2 hx
      generalize heldW m C = hd at no
      have mem : ∀ {env : List SV} {j' : Nat} {a : Int}, env[5]? = some (.dat (intsD C)) → env[j']? = some (.dat (.int a)) → Ev K (tOp (rIn K false) (tVar j') (tVar 5)) env (.bool (decide (a ∈ C))) := fun {env j' a} h5 ha => (ev_inL (ds := C.map .int) (ev_var (i := j') ha) (ev_var (i := 5) h5) rfl (ints_flat _)).is (by rw [ints_any])
      refine go_less (sx_no (EvT.is (b := oneEnd C x && opensF x.2.2 hd) (et_and (EvT.is (et_test (ev_ne (mem (j' := 10) rfl rfl) (mem (j' := 11) rfl rfl) rfl rfl rfl)) ?_) fun _ => (et_or (et_test (ev_isN (ev_var (i := 12) rfl))) fun _ => et_test (ev_inT (ds := hd.map .int) (ev_var (i := 12) rfl) (ev_var (i := 7) rfl) (optD_flat _) (ints_flat _))).is (by rw [opt_any])) no) sx_next) (by walk_at "less")
      unfold oneEnd
      congr 1
      exact decide_eq_decide.mpr ⟨fun z => V.bl.inj z, fun z => congrArg V.bl z⟩
    · exact sx_ret ((ev_call (ea_cons (ev_var (i := 6) rfl) (ea_cons (ev_var (i := 7) rfl) ea_nil)) ⟨keysAmong m.ks C, heldW m C, rfl, rfl⟩).is (by rw [decide_eq_true cks.symm]))

/-! the goal; the law -/
def goalF (ns : List Int) (n : Int) : Int := if cellAt ns 0 % 12 = 10 ∧ cellAt ns 2 % 2 = 1 then n - 1 else if (cellAt ns 0 % 12 = 6 ∨ cellAt ns 0 % 12 = 8) ∧ 0 < cellAt ns 2 % 4 then (n - 1) * (1 + mix (cellAt ns 0) 0 % (n - 1)) % n else cellAt ns 2 % n
def R_goal (ds : List PyData) (d : PyData) : Prop := ∃ (ns : List Int) (n : Int), sizeOk (cellAt ns 0) n ∧ ds = [.list (ns.map .int), .int n] ∧ d = .int (goalF ns n)
theorem goalF_room {ns : List Int} {n : Int} (h : sizeOk (cellAt ns 0) n) : inRoom n (goalF ns n) := by
  have h1 := h.1
  unfold goalF
  split
  · unfold inRoom; omega
  · split
    · exact room_mod (by omega)
    · exact room_mod (by omega)
theorem ok_l_goal (T : Txt K mg A) : FnOk P w K mg base CX0 2 A.a_l_goal A.d_l_goal ["_law_script", "_law_size_here"] (spG K R_goal) := by
  refine T.f_l_goal.ok sc_l_goal (fun vs H Q E h => ?_) (fun cdv Ar outer s H vs Q E hr h => ?_)
  · obtain ⟨H0, ds, d, sm, dv, ⟨ns, n, _, rfl, _⟩, _⟩ := h; exact dpa_len dv
  obtain ⟨H0, ds, d, sm, dv, ⟨ns, n, hn, rfl, rfl⟩, q⟩ := h
  refine ⟨_, (pss_cons (ps_set (i := 2) sc_l_goal.nd rfl (.inl rfl) (pe_callS (E := fun _ => E0) (ok_l_cell_at T) (hr.mono (by decide)) rfl T.g_l_cell_at T.f_l_cell_at.kp (b_l_cell_at T) (fun σ => pass0S) (pa_cons (pv 0) (pa_cons pe_int pa_nil))))
      (pss_cons (ps_if (PW.pt (pw_and (pt_cmpR op_eq (pe_op op_mod (pv 2) pe_int) pe_int (nomark _)) (pw_and1 (pt_cmpR op_eq (pe_op op_mod (pe_callS (E := fun _ => E0) (ok_l_cell_at T) (hr.mono (by decide)) rfl T.g_l_cell_at T.f_l_cell_at.kp (b_l_cell_at T) (fun σ => pass0S) (pa_cons (pv 0) (pa_cons pe_int pa_nil))) pe_int) pe_int (nomark _))))) (pss_one (ps_ret (pe_op op_sub (pv 1) pe_int))) pss_nil)
      (pss_cons (ps_if (PW.pt (pw_and (pt_cmpR (r := rIn K false) (by exact op_in_seq) (pe_op op_mod (pv 2) pe_int) (pe_tup (pa_cons pe_int (pa_cons pe_int pa_nil))) (by rfl)) (pw_and1 (pt_cmpR op_gt (pe_op op_mod (pe_callS (E := fun _ => E0) (ok_l_cell_at T) (hr.mono (by decide)) rfl T.g_l_cell_at T.f_l_cell_at.kp (b_l_cell_at T) (fun σ => pass0S) (pa_cons (pv 0) (pa_cons pe_int pa_nil))) pe_int) pe_int (nomark _))))) (pss_one (ps_ret (pe_op op_mod (pe_op op_mul (pe_op op_sub (pv 1) pe_int) (pe_op op_add pe_int (pe_op op_mod (pe_callS (E := fun _ => E0) (ok_l_mix T) (hr.mono (by decide)) rfl T.g_l_mix T.f_l_mix.kp (b_l_mix T) (fun σ => pass0S) (pa_cons (pv 2) (pa_cons pe_int pa_nil))) (pe_op op_sub (pv 1) pe_int)))) (pv 1)))) pss_nil)
      (pss_one (ps_ret (pe_op op_mod (pe_callS (E := fun _ => E0) (ok_l_cell_at T) (hr.mono (by decide)) rfl T.g_l_cell_at T.f_l_cell_at.kp (b_l_cell_at T) (fun σ => pass0S) (pa_cons (pv 0) (pa_cons pe_int pa_nil))) (pv 1))))))), ?_⟩
  refine Pf.run (X := fun _ _ _ _ => False) (oc := .rt (.int (goalF ns n))) sm dv rfl ?_ q
  have cell : ∀ {env : List SV} {te : TE} {k : Int}, 0 ≤ k → env[0]? = some (.dat (.list (ns.map .int))) → Ev K te env (.int k) → Ev K (tCallS (spG K R_cell) (fun _ => E0) (tCons (tVar 0) (tCons te tNil))) env (.int (cellAt ns k)) := fun h0 h1 h2 => ev_call (ea_cons (ev_var h1) (ea_cons h2 ea_nil)) ⟨ns, _, h0, rfl, rfl⟩
  have n0 : 0 < n := by have := hn.1; omega
  refine sx_seq (sx_set (cell (by decide) rfl (ev_c rfl))) ?_
  unfold goalF
  have hsz := hn.2.1
  have h60 := hn.1
  generalize cellAt ns 0 = f at hsz
  refine sx_when (b := decide (f % 12 = 10) && decide (cellAt ns 2 % 2 = 1)) (et_and (et_test (ev_eqI (ev_I (ev_var rfl) (ev_c rfl) (by decide) rfl) (ev_c rfl))) fun _ => et_test (ev_eqI (ev_I (cell (by decide) rfl (ev_c rfl)) (ev_c rfl) (by decide) rfl) (ev_c rfl))) (fun z => ?_) (fun _ => rfl) fun z => ?_
  · rw [Bool.and_eq_true, decide_eq_true_eq, decide_eq_true_eq] at z
    rw [if_pos z]
    exact sx_ret (ev_I0 (ev_var rfl) (ev_c rfl) rfl)
  have z' : ¬ (f % 12 = 10 ∧ cellAt ns 2 % 2 = 1) := fun y => by
    rw [decide_eq_true y.1, decide_eq_true y.2] at z; cases z
  rw [if_neg z']
  refine sx_when (b := decide (f % 12 = 6 ∨ f % 12 = 8) && decide (0 < cellAt ns 2 % 4)) (et_and ((et_test (ev_inT (ds := [.int 6, .int 8]) (ev_I (ev_var rfl) (ev_c rfl) (by decide) rfl) (ev_tup (ea_cons (ev_c rfl) (ea_cons (ev_c rfl) ea_nil)) (Nat.le_of_ble_eq_true rfl)) rfl rfl)).is (any2 _ _ _)) fun _ => et_test (ev_I0 (ev_I (cell (by decide) rfl (ev_c rfl)) (ev_c rfl) (by decide) rfl) (ev_c rfl) rfl)) (fun y => ?_) (fun _ => rfl) fun y => ?_
  · rw [Bool.and_eq_true, decide_eq_true_eq, decide_eq_true_eq] at y
    rw [if_pos y]
    have big := hsz y.1
    exact sx_ret (ev_I (ev_I (ev_I0 (ev_var rfl) (ev_c rfl) rfl) (ev_I0 (ev_c rfl) (ev_I (ev_call (ea_cons (ev_var rfl) (ea_cons (ev_c rfl) ea_nil)) ⟨f, 0, rfl, rfl⟩) (ev_I0 (ev_var rfl) (ev_c rfl) rfl) (by show (0 : Int) < n - 1; omega) rfl) rfl) (cm0 (by omega)) rfl) (ev_var rfl) n0 rfl)
  · have y' : ¬ ((f % 12 = 6 ∨ f % 12 = 8) ∧ 0 < cellAt ns 2 % 4) := fun x => by
      rw [decide_eq_true x.1, decide_eq_true x.2] at y; cases y
    rw [if_neg y']
    exact sx_ret (ev_I (cell (by decide) rfl (ev_c rfl)) (ev_var rfl) n0 rfl)
theorem least_ex {m : Maze} (hm : okMaze m) {s : Int} (hs : inRoom m.n s) {g : Int} (hg : g ∈ comeR m s) : ∃ w, IsLeast m s g w := by
  obtain ⟨t, _, ⟨e, h1, h2⟩, h3⟩ := goal_lay hm hs hg
  obtain ⟨k, hk⟩ := List.getElem?_of_mem h1
  obtain ⟨j, j1, ⟨f, j2, j3⟩, j4⟩ := least_nat (p := fun j => ∃ f, (layP m s t).2[j]? = some f ∧ f.1.1 = g) k ⟨e, hk, h2⟩
  refine ⟨f.2, t, ⟨f, List.mem_of_getElem? j2, j3, rfl⟩, h3, fun x hx hgx => ?_⟩
  obtain ⟨i, hi⟩ := List.getElem?_of_mem hx
  have ij : j ≤ i := Nat.le_of_not_lt fun z => j4 i z ⟨x, hi, hgx⟩
  by_cases c : i = j
  · subst c; rw [hi] at j2; rw [Option.some.inj j2]; exact List.le_refl _
  · have jl := (List.getElem?_eq_some_iff.mp j2).1
    have il := (List.getElem?_eq_some_iff.mp hi).1
    have := List.pairwise_iff_getElem.mp (layOk m s t).up j i jl il (by omega)
    rw [(List.getElem?_eq_some_iff.mp j2).2, (List.getElem?_eq_some_iff.mp hi).2] at this
    exact ll_of_lt this
theorem least_head {m : Maze} {s g : Int} {w : List Int} (h : IsLeast m s g w) : ∃ t, w = s :: t := by
  obtain ⟨t, ⟨e, h1, h2, h3⟩, _⟩ := h
  have := ((layOk m s t).wk e h1).2.1
  rw [h3] at this
  cases w with
  | nil => cases this
  | cons a b => exact ⟨b, by rw [Option.some.inj this]⟩

/-! the law -/
def spLaw (K : PySem.W.Frag) : Sp := fun vs H Q _ => ∃ (a : Addr) (ns : List Int), vs = [.ref a] ∧ SqL K H a (ns.map V.int) ∧ ns.length ≤ 63 ∧ ∀ H', Q (.bl true) H'
theorem sh_door (d : Door) : Sh 1 (doorD d) := sh3 sh_int sh_int (by cases d.2.2 <;> first | exact sh_none | exact sh_int)
theorem sh_maze (m : Maze) : Sh 3 (mazeD m) := sh3 sh_int (sh_lst (sh_map fun d _ => sh_door d)) (sh_keys m.ks)
theorem lay_nil {m : Maze} {s : Int} {N : Nat} (h : (layP m s N).2 = []) : ∀ d, (layP m s (N + d)).2 = []
  | 0 => h
  | d + 1 => by
    have ih := lay_nil h d
    have e : (layP m s (N + (d + 1))).2 = growE (((layP m s (N + d)).1 ++ (layP m s (N + d)).2).map (·.1)) (candP m (layP m s (N + d)).2) := rfl
    rw [e, ih]; rfl
/-- what a least walk is, for the law -/
theorem least_walks {m : Maze} (hm : okMaze m) {s : Int} (hs : inRoom m.n s) (h60 : m.n ≤ 60) {g : Int} {w : List Int} (h : IsLeast m s g w) {N : Nat} (hE : IsEnd m s N) :
    w.length ≤ 3000 ∧ w.head? = some s ∧ w.getLast? = some g ∧ WalkOk m w ∧ ∃ t : Nat, ((w.length : Int) - 1) = (t : Int) ∧ t < N ∧ ∀ e ∈ (layP m s t).1, e.1.1 ≠ g := by
  obtain ⟨t, ⟨e, h1, h2, h3⟩, h4, _⟩ := h
  obtain ⟨k1, k2, k3⟩ := (layOk m s t).wk e h1
  have hw := walk_lay t e h1
  rw [h3] at k1 k2 k3 hw
  have tN : t < N := Nat.lt_of_not_le fun z => by
    obtain ⟨d, rfl⟩ : ∃ d, t = N + d := ⟨t - N, by omega⟩
    rw [lay_nil hE.2 d] at h1; cases h1
  have many := end_small hm hs h60 hE
  refine ⟨by omega, k2, ?_, hw, t, by omega, tN, h4⟩
  have e1 : e.1.1 = w.getLast?.getD 0 := by rw [k3]; rfl
  cases hl : w.getLast? with
  | none =>
    rw [List.getLast?_eq_none_iff] at hl
    rw [hl] at k1; cases k1
  | some x =>
    rw [hl] at e1
    rw [← h2, e1]; rfl
theorem sh_layers (m : Maze) (s : Int) (N : Nat) : Sh 4 (.list (layD m s N)) := sh_lst (sh_map fun t _ => sh_states _)
theorem ok_law (T : Txt K mg A) : FnOk P w K mg base CX0 7 A.a_law A.d_law ["_law_script"] (spLaw K) := by
  refine T.f_law.ok sc_law (fun vs H Q E h => ?_) (fun cdv Ar outer s H vs Q E hr h => ?_)
  · obtain ⟨a, ns, rfl, _⟩ := h; rfl
  obtain ⟨a, ns, rfl, hS, hlen, q⟩ := h
  have dv : DpAll K H [.ref a] [.list (ns.map .int)] := .cons (.lst hS (dpa_of_ints ns)) .nil
  refine ⟨_, (pss_cons (ps_set (i := 1) sc_law.nd rfl (.inl rfl) (pe_callS (E := fun _ => E0) (ok_l_size T) (hr.mono (by decide)) rfl T.g_l_size T.f_l_size.kp (b_l_size T) (fun σ => pass0S) (pa_cons (pv 0) pa_nil)))
      (pss_cons (ps_set (i := 2) sc_law.nd rfl (.inl rfl) (pe_callS (E := fun _ => E0) (ok_l_doors T) (hr.mono (by decide)) rfl T.g_l_doors T.f_l_doors.kp (b_l_doors T) (fun σ => pass0S) (pa_cons (pv 0) (pa_cons (pv 1) pa_nil))))
      (pss_cons (ps_set (i := 3) sc_law.nd rfl (.inl rfl) (pe_callS (E := fun _ => E0) (ok_l_lying T) (hr.mono (by decide)) rfl T.g_l_lying T.f_l_lying.kp (b_l_lying T) (fun σ => pass0S) (pa_cons (pv 0) (pa_cons (pv 1) pa_nil))))
      (pss_cons (ps_set (i := 4) sc_law.nd rfl (.inl rfl) (pe_op op_mod (pe_callS (E := fun _ => E0) (ok_l_cell_at T) (hr.mono (by decide)) rfl T.g_l_cell_at T.f_l_cell_at.kp (b_l_cell_at T) (fun σ => pass0S) (pa_cons (pv 0) (pa_cons pe_int pa_nil))) (pv 1)))
      (pss_cons (ps_set (i := 5) sc_law.nd rfl (.inl rfl) (pe_callS (E := fun _ => E0) (ok_l_goal T) (hr.mono (by decide)) rfl T.g_l_goal T.f_l_goal.kp (b_l_goal T) (fun σ => pass0S) (pa_cons (pv 0) (pa_cons (pv 1) pa_nil))))
      (pss_cons (ps_if (PW.pt (pw_and (pt_cmpR (r := rIn K false) (by exact op_in_seq) (pe_op op_mod (pe_callS (E := fun _ => E0) (ok_l_cell_at T) (hr.mono (by decide)) rfl T.g_l_cell_at T.f_l_cell_at.kp (b_l_cell_at T) (fun σ => pass0S) (pa_cons (pv 0) (pa_cons pe_int pa_nil))) pe_int) (pe_tup (pa_cons pe_int (pa_cons pe_int pa_nil))) (by rfl)) (pw_and1 (pt_cmpR op_gt (pe_op op_mod (pe_callS (E := fun _ => E0) (ok_l_cell_at T) (hr.mono (by decide)) rfl T.g_l_cell_at T.f_l_cell_at.kp (b_l_cell_at T) (fun σ => pass0S) (pa_cons (pv 0) (pa_cons pe_int pa_nil))) pe_int) pe_int (nomark _))))) (pss_one (ps_set (i := 4) sc_law.nd rfl (.inl rfl) pe_int)) pss_nil)
      (pss_cons (ps_set (i := 6) sc_law.nd rfl (.inl rfl) (pe_tup (pa_cons (pv 1) (pa_cons (pe_callTy call_list_of (by rfl) T.u_list (by decide +kernel) (pa_cons (pv 2) pa_nil)) (pa_cons (pe_callTy call_list_of (by rfl) T.u_list (by decide +kernel) (pa_cons (pv 3) pa_nil)) pa_nil)))))
      (pss_cons (ps_set (i := 7) sc_law.nd rfl (.inl rfl) (pe_callS (ok_guide T) (hr.mono (by decide)) rfl T.g_guide T.f_guide.kp (b_guide T) (fun σ => passAt takes0 σ) (pa_cons (pv 6) (pa_cons (pv 4) (pa_cons (pv 5) pa_nil)))))
      (pss_cons (ps_if (PW.pt (pw_or (pt_not (pt_val (pe_callB (r := rIsi K) (by exact call_isi) (by rfl) T.u_isinstance (by decide +kernel) (pa_cons (pv 7) (pa_cons (pe_bltn (v := .ty "tuple") (by rfl) T.u_tuple (by decide +kernel) rfl) pa_nil))))) (pw_or (pt_cmpR op_lt (pe_callB call_len_seq (by rfl) T.u_len (by decide +kernel) (pa_cons (pv 7) pa_nil)) pe_int (nomark _)) (pw_or1 (pt_cmpR (r := rNeD K) (by exact (op_neD hr.units)) (pv 6) (pe_tup (pa_cons (pv 1) (pa_cons (pv 2) (pa_cons (pv 3) pa_nil)))) (nomark _)))))) (pss_one (ps_ret pe_bl)) pss_nil)
      (pss_cons (ps_if (PW.pt (pw_and (pt_cmpR op_eq (pe_ix (r := rIxT K) (by exact ix_tup) (pv 7) pe_int (fun _ _ => rfl)) pe_str (nomark _)) (pw_and1 (pt_cmpR op_eq (pe_callB call_len_seq (by rfl) T.u_len (by decide +kernel) (pa_cons (pv 7) pa_nil)) pe_int (nomark _))))) (pss_cons (ps_set (i := 8) sc_law.nd rfl (.inl rfl) (pe_tup (pa_cons (pv 4) (pa_cons (pe_callS (E := fun _ => E0) (ok_l_taken T) (hr.mono (by decide)) rfl T.g_l_taken T.f_l_taken.kp (b_l_taken T) (fun σ => pass0S) (pa_cons (pv 3) (pa_cons (pv 4) (pa_cons (pe_tup pa_nil) pa_nil)))) pa_nil))))
      (pss_cons (ps_if (pt_not (pt_val (pe_callS (E := fun _ => E0) (ok_l_walks T) (hr.mono (by decide)) rfl T.g_l_walks T.f_l_walks.kp (b_l_walks T) (fun σ => pass0S) (pa_cons (pv 2) (pa_cons (pv 3) (pa_cons (pe_ix (r := rIxT K) (by exact ix_tup) (pv 7) pe_int (fun _ _ => rfl)) (pa_cons (pv 4) (pa_cons (pv 5) pa_nil)))))))) (pss_one (ps_ret pe_bl)) pss_nil)
      (pss_cons (ps_set (i := 9) sc_law.nd rfl (.inl rfl) (pe_callS (ok_layers T) (hr.mono (by decide)) rfl T.g_layers T.f_layers.kp (b_layers T) (fun σ => passAt takes0 σ) (pa_cons (pv 6) (pa_cons (pv 4) pa_nil))))
      (pss_one (ps_ret (pe_callS (E := fun _ => E0) (ok_l_none_shorter T) (hr.mono (by decide)) rfl T.g_l_none_shorter T.f_l_none_shorter.kp (b_l_none_shorter T) (fun σ => pass0S) (pa_cons (pv 2) (pa_cons (pv 3) (pa_cons (pv 9) (pa_cons (pv 8) (pa_cons (pv 5) (pa_cons (pe_op op_sub (pe_callB call_len_seq (by rfl) T.u_len (by decide +kernel) (pa_cons (pe_ix (r := rIxT K) (by exact ix_tup) (pv 7) pe_int (fun _ _ => rfl)) pa_nil)) pe_int) pa_nil)))))))))))) pss_nil)
      (pss_cons (ps_if (PW.pt (pw_or (pt_cmpR op_ne (pe_ix (r := rIxT K) (by exact ix_tup) (pv 7) pe_int (fun _ _ => rfl)) pe_str (nomark _)) (pw_or1 (pt_cmpR op_ne (pe_callB call_len_seq (by rfl) T.u_len (by decide +kernel) (pa_cons (pv 7) pa_nil)) pe_int (nomark _))))) (pss_one (ps_ret pe_bl)) pss_nil)
      (pss_one (ps_ret (pe_callS (E := fun _ => E0) (ok_l_shut T) (hr.mono (by decide)) rfl T.g_l_shut T.f_l_shut.kp (b_l_shut T) (fun σ => pass0S) (pa_cons (pv 2) (pa_cons (pv 3) (pa_cons (pv 7) (pa_cons (pv 4) (pa_cons (pv 5) pa_nil))))))))))))))))))), ?_⟩
  refine Pf.runN (X := fun _ _ _ _ => False) (P := fun oc => oc = .rt (.bool true)) (Same.refl H) dv rfl ?_ (fun oc e => by subst e; exact fun v G H2 f d => by cases d; exact q H2)
  have fin : ∀ oc : Oc, oc = .rt (.bool true) → oc.isNx = false := fun oc e => by rw [e]; rfl
  have cell : ∀ {env : List SV} {te : TE} {k : Int}, 0 ≤ k → env[0]? = some (.dat (.list (ns.map .int))) → Ev K te env (.int k) → Ev K (tCallS (spG K R_cell) (fun _ => E0) (tCons (tVar 0) (tCons te tNil))) env (.int (cellAt ns k)) := fun h0 h1 h2 => ev_call (ea_cons (ev_var h1) (ea_cons h2 ea_nil)) ⟨ns, _, h0, rfl, rfl⟩
  -- the maze
  refine sn_seq (sn_setD (ea_cons (ev_var rfl) ea_nil) ⟨ns, rfl⟩) fun e ⟨d, ⟨ns', n, e1, hn, ed⟩, he⟩ => ?_
  have e2 : ns = ns' := map_inj (fun _ _ e => PyData.int.inj e) (PyData.list.inj (List.cons.inj e1).1)
  subst e2 ed he
  have n0 : 0 < n := by have := hn.1; omega
  refine sn_seq (sn_setN (ea_cons (ev_var rfl) (ea_cons (ev_var rfl) ea_nil)) ⟨ns, n, hlen, hn, rfl⟩) fun e ⟨xs, ⟨n', L, e1, hL, exs⟩, he⟩ => ?_
  obtain rfl : n = n' := PyData.int.inj (Option.some.inj e1)
  subst exs he
  refine sn_seq (sn_setN (ea_cons (ev_var rfl) (ea_cons (ev_var rfl) ea_nil)) ⟨ns, n, hlen, hn, rfl⟩) fun e ⟨xs, ⟨n', Ks, e1, hK, exs⟩, he⟩ => ?_
  obtain rfl : n = n' := PyData.int.inj (Option.some.inj e1)
  subst exs he
  refine sn_fix 2 rfl (sn_fix 3 rfl ?_)
  refine sn_seq1 (sx_set (ev_I (cell (by decide) rfl (ev_c rfl)) (ev_var rfl) n0 rfl)) ?_
  refine sn_seq1 (sx_set (ev_call (ea_cons (ev_var rfl) (ea_cons (ev_var rfl) ea_nil)) ⟨ns, n, hn, rfl, rfl⟩)) ?_
  have hg := goalF_room hn
  generalize goalF ns n = g at hg
  have hk : okKeys Ks := ⟨hK.1, fun k hk => (hK.2 k hk).2⟩
  have hm : okMaze ⟨n, L, Ks⟩ := ⟨hk, Nat.le_trans hL.1 (by decide), fun d hd => ⟨(hL.2 d hd).1, (hL.2 d hd).2.1⟩⟩
  have h60 : n ≤ 60 := hn.1.2
  obtain ⟨r, er, hr0⟩ : ∃ r, r = (if (decide (cellAt ns 0 % 12 = 6 ∨ cellAt ns 0 % 12 = 8) && decide (0 < cellAt ns 2 % 4)) = true then 0 else cellAt ns 1 % n) ∧ inRoom n r := ⟨_, rfl, by
    split
    · exact ⟨Int.le_refl _, n0⟩
    · exact room_mod n0⟩
  refine sn_seq1 (env1 := [.dat (.list (ns.map .int)), .dat (.int n), .dat (.list (L.map doorD)), .dat (.list (Ks.map keyD)), .dat (.int r), .dat (.int g), .no, .no, .no, .no]) (sx_if (b := decide (cellAt ns 0 % 12 = 6 ∨ cellAt ns 0 % 12 = 8) && decide (0 < cellAt ns 2 % 4)) (et_and ((et_test (ev_inT (ds := [.int 6, .int 8]) (ev_I (cell (by decide) rfl (ev_c rfl)) (ev_c rfl) (by decide) rfl) (ev_tup (ea_cons (ev_c rfl) (ea_cons (ev_c rfl) ea_nil)) (Nat.le_of_ble_eq_true rfl)) rfl rfl)).is (any2 _ _ _)) fun _ => et_test (ev_I0 (ev_I (cell (by decide) rfl (ev_c rfl)) (ev_c rfl) (by decide) rfl) (ev_c rfl) rfl)) (fun z => ?_) fun z => ?_) ?_
  · rw [er, if_pos z]
    exact sx_set (ev_c (d := .int 0) rfl)
  · rw [er, if_neg (by rw [z]; decide)]
    exact sx_next
  have mzd : ∀ {env : List SV}, env[1]? = some (.dat (.int n)) → env[2]? = some (.dat (.list (L.map doorD))) → env[3]? = some (.dat (.list (Ks.map keyD))) → Ev K (tTup (tCons (tVar 1) (tCons (tVar 2) (tCons (tVar 3) tNil)))) env (mazeD ⟨n, L, Ks⟩) := fun h1 h2 h3 => ev_tup (ea_cons (ev_var h1) (ea_cons (ev_var h2) (ea_cons (ev_var h3) ea_nil))) (Nat.le_of_ble_eq_true rfl)
  refine sn_seq1 (sx_set (d := mazeD ⟨n, L, Ks⟩) (ev_tup (ea_cons (ev_var rfl) (ea_cons (EvO.ev (eo_list (ev_var rfl))) (ea_cons (EvO.ev (eo_list (ev_var rfl))) ea_nil))) (Nat.le_of_ble_eq_true rfl))) ?_
  obtain ⟨N, hE⟩ := end_is hm hr0
  have zdec := eqv_dec (sh_maze ⟨n, L, Ks⟩) (sh_maze ⟨n, L, Ks⟩) (p := True) ⟨fun _ => rfl, fun _ => trivial⟩
  have st0E : ∀ {env : List SV}, env[3]? = some (.dat (.list (Ks.map keyD))) → env[4]? = some (.dat (.int r)) → Ev K (tTup (tCons (tVar 4) (tCons (tCallS (spG K R_ltaken) (fun _ => E0) (tCons (tVar 3) (tCons (tVar 4) (tCons (tTup tNil) tNil)))) tNil))) env (stateD (st0 ⟨n, L, Ks⟩ r)) := fun h3 h4 => ev_tup (ea_cons (ev_var h4) (ea_cons (ev_call (ea_cons (ev_var h3) (ea_cons (ev_var h4) (ea_cons (ev_tup ea_nil (by decide)) ea_nil))) ⟨Ks, r, [], ⟨hk, ⟨Nat.zero_le _, fun _ z => absurd z List.not_mem_nil⟩⟩, rfl, rfl⟩) ea_nil)) (Nat.le_of_ble_eq_true rfl)
  by_cases hin : g ∈ comeR ⟨n, L, Ks⟩ r
  · obtain ⟨w0, hw⟩ := least_ex hm hr0 hin
    obtain ⟨a1, a2, a3, a4, t, a5, a6, a7⟩ := least_walks hm hr0 h60 hw hE
    refine sn_seq1 (sx_set (d := .tuple [.str walkS, .list (w0.map .int)]) (ev_callGd (ea_cons (ev_var rfl) (ea_cons (ev_var rfl) (ea_cons (ev_var rfl) ea_nil))) (R := R_guide) (k := walkS) (xs := w0.map .int) (rs := []) ⟨⟨n, L, Ks⟩, r, g, ⟨hm, hr0, hg, h60⟩, rfl, .inl ⟨w0, hin, hw, rfl⟩⟩)) ?_
    refine sn_when (b := false) (EvT.is (b := !true || (decide ((2 : Int) < 2) || !PyData.eqv (mazeD ⟨n, L, Ks⟩) (mazeD ⟨n, L, Ks⟩))) (et_or (et_not (et_B (ev_isi (n := "tuple") (ev_var (i := 7) rfl) (kit_ty (by decide +kernel))))) fun _ => et_or (et_test (ev_I0 (ev_lenT (ev_var (i := 7) rfl)) (ev_c rfl) rfl)) fun _ => et_test (ev_neD (ev_var rfl) (mzd rfl rfl rfl) ((sh_maze ⟨n, L, Ks⟩).shaped (by decide)) ((sh_maze ⟨n, L, Ks⟩).shaped (by decide)))) (by rw [zdec]; rfl)) (fun z => nomatch z) fin (fun _ => ?_)
    have w1 : ∀ {env : List SV}, env[7]? = some (.dat (.tuple [.str walkS, .list (w0.map .int)])) → Ev K (tOp (rIxT K) (tVar 7) (tC (.int 1))) env (intsD w0) := fun h => ev_ixT (ds := [.str walkS, .list (w0.map .int)]) (ev_var h) (ev_c rfl) rfl
    refine sn_when (b := true) (EvT.is (b := decide (walkS = walkS) && decide ((2 : Int) = 2)) (et_and (et_test (ev_eqS (ev_ixT (ds := [.str walkS, .list (w0.map .int)]) (ev_var (i := 7) rfl) (ev_c rfl) (atI_int (by decide) rfl)) (ev_c (d := .str walkS) rfl))) fun _ => et_test (ev_eqI (ev_lenT (xs := [.str walkS, .list (w0.map .int)]) (ev_var (i := 7) rfl)) (ev_c rfl))) (by rw [decide_eq_true rfl, decide_eq_true rfl]; rfl)) (fun _ => ?_) fin (fun z => nomatch z)
    refine sn_seq1 (sx_set (st0E rfl rfl)) ?_
    refine sn_when (b := false) (EvT.is (b := !true) (et_not (et_B (ev_call (ea_cons (ev_var rfl) (ea_cons (ev_var rfl) (ea_cons (w1 rfl) (ea_cons (ev_var rfl) (ea_cons (ev_var rfl) ea_nil))))) ⟨⟨n, L, Ks⟩, r, g, w0, ⟨hm, a1, a2, a3, a4⟩, rfl, rfl⟩))) rfl) (fun z => nomatch z) fin (fun _ => ?_)
    refine sn_seq1 (sx_set (d := .list (layD ⟨n, L, Ks⟩ r N)) (EvO.ev (eo_callX (ea_cons (ev_var rfl) (ea_cons (ev_var rfl) ea_nil)) ⟨⟨n, L, Ks⟩, r, N, ⟨hm, hr0, h60, hE⟩, rfl, rfl⟩))) ?_
    have hlen : ((w0.map PyData.int).length : Int) - 1 = (t : Int) := by rw [List.length_map]; exact a5
    exact sn_of (sx_ret (ev_call (ea_cons (ev_var rfl) (ea_cons (ev_var rfl) (ea_cons (ev_var rfl) (ea_cons (ev_var rfl) (ea_cons (ev_var rfl) (ea_cons (Ev.is (d := .int (((w0.map PyData.int).length : Int) - 1)) (ev_I0 (ev_len (xs := w0.map .int) (w1 rfl)) (ev_c rfl) rfl) (by rw [hlen])) ea_nil)))))) ⟨⟨n, L, Ks⟩, r, g, N, t, ⟨hm, hr0, h60, hE, a6, a7⟩, rfl, rfl⟩)) rfl
  · refine sn_seq1 (sx_set (d := .tuple [.str shutS, intsD (comeR ⟨n, L, Ks⟩ r), handD (keysAmong Ks (comeR ⟨n, L, Ks⟩ r))]) (ev_callGd (ea_cons (ev_var rfl) (ea_cons (ev_var rfl) (ea_cons (ev_var rfl) ea_nil))) (R := R_guide) (k := shutS) (xs := (comeR ⟨n, L, Ks⟩ r).map .int) (rs := [handD (keysAmong Ks (comeR ⟨n, L, Ks⟩ r))]) ⟨⟨n, L, Ks⟩, r, g, ⟨hm, hr0, hg, h60⟩, rfl, .inr ⟨hin, rfl⟩⟩)) ?_
    generalize eC : comeR ⟨n, L, Ks⟩ r = C
    refine sn_when (b := false) (EvT.is (b := !true || (decide ((3 : Int) < 2) || !PyData.eqv (mazeD ⟨n, L, Ks⟩) (mazeD ⟨n, L, Ks⟩))) (et_or (et_not (et_B (ev_isi (n := "tuple") (ev_var (i := 7) rfl) (kit_ty (by decide +kernel))))) fun _ => et_or (et_test (ev_I0 (ev_lenT (ev_var (i := 7) rfl)) (ev_c rfl) rfl)) fun _ => et_test (ev_neD (ev_var rfl) (mzd rfl rfl rfl) ((sh_maze ⟨n, L, Ks⟩).shaped (by decide)) ((sh_maze ⟨n, L, Ks⟩).shaped (by decide)))) (by rw [zdec]; rfl)) (fun z => nomatch z) fin (fun _ => ?_)
    have k0 : ∀ {env : List SV}, env[7]? = some (.dat (.tuple [.str shutS, intsD C, handD (keysAmong Ks C)])) → Ev K (tOp (rIxT K) (tVar 7) (tC (.int 0))) env (.str shutS) := fun h => ev_ixT (ds := [.str shutS, intsD C, handD (keysAmong Ks C)]) (ev_var h) (ev_c rfl) rfl
    refine sn_when (b := false) (EvT.is (b := decide (shutS = walkS) && decide ((3 : Int) = 2)) (et_and (et_test (ev_eqS (k0 rfl) (ev_c (d := .str walkS) rfl))) fun _ => et_test (ev_eqI (ev_lenT (xs := [.str shutS, intsD C, handD (keysAmong Ks C)]) (ev_var (i := 7) rfl)) (ev_c rfl))) (by rw [decide_eq_false (show ¬ (3 : Int) = 2 by decide), Bool.and_false])) (fun z => nomatch z) fin (fun _ => ?_)
    refine sn_when (b := false) (EvT.is (b := !decide (shutS = shutS) || !decide ((3 : Int) = 3)) (et_or (et_test (ev_neS (k0 rfl) (ev_c (d := .str shutS) rfl))) fun _ => et_test (ev_neI (ev_lenT (xs := [.str shutS, intsD C, handD (keysAmong Ks C)]) (ev_var (i := 7) rfl)) (ev_c rfl))) (by rw [decide_eq_true rfl, decide_eq_true rfl]; rfl)) (fun z => nomatch z) fin (fun _ => ?_)
    exact sn_of (sx_ret (ev_call (ea_cons (ev_var rfl) (ea_cons (ev_var rfl) (ea_cons (ev_var rfl) (ea_cons (ev_var rfl) (ea_cons (ev_var rfl) ea_nil))))) ⟨⟨n, L, Ks⟩, r, g, ⟨hm, hr0, h60, hin⟩, by rw [eC], rfl⟩)) rfl

end
theorem all_mk {l : PySem.W.OpenLaw} {w : World} {K : PySem.W.Frag} {h : Heap} {mg : PySem.Str → Option Value} {fa : Addr} (X : K.In h) (G : h.Ns mainGlobals mg) (hfa : mg "law" = some (.ref fa))
    {ad_need_room : Addr} {od_need_room an_need_room : Option Addr} {sl_need_room : Array (Option Value)} {oc_need_room kV_need_room dc_need_room pm_need_room cd_need_room ct_need_room : Value}
    {ad_keys_in : Addr} {od_keys_in an_keys_in : Option Addr} {sl_keys_in : Array (Option Value)} {oc_keys_in kV_keys_in dc_keys_in pm_keys_in cd_keys_in ct_keys_in : Value}
    {ad_keys_among : Addr} {od_keys_among an_keys_among : Option Addr} {sl_keys_among : Array (Option Value)} {oc_keys_among kV_keys_among dc_keys_among pm_keys_among cd_keys_among ct_keys_among : Value}
    {ad_taken : Addr} {od_taken an_taken : Option Addr} {sl_taken : Array (Option Value)} {oc_taken kV_taken dc_taken pm_taken cd_taken ct_taken : Value}
    {ad_opens : Addr} {od_opens an_opens : Option Addr} {sl_opens : Array (Option Value)} {oc_opens kV_opens dc_opens pm_opens cd_opens ct_opens : Value}
    {ad_steps : Addr} {od_steps an_steps : Option Addr} {sl_steps : Array (Option Value)} {oc_steps kV_steps dc_steps pm_steps cd_steps ct_steps : Value}
    {ad_far_end : Addr} {od_far_end an_far_end : Option Addr} {sl_far_end : Array (Option Value)} {oc_far_end kV_far_end dc_far_end pm_far_end cd_far_end ct_far_end : Value}
    {ad_come : Addr} {od_come an_come : Option Addr} {sl_come : Array (Option Value)} {oc_come kV_come dc_come pm_come cd_come ct_come : Value}
    {ad_ways_out : Addr} {od_ways_out an_ways_out : Option Addr} {sl_ways_out : Array (Option Value)} {oc_ways_out kV_ways_out dc_ways_out pm_ways_out cd_ways_out ct_ways_out : Value}
    {ad_guide : Addr} {od_guide an_guide : Option Addr} {sl_guide : Array (Option Value)} {oc_guide kV_guide dc_guide pm_guide cd_guide ct_guide : Value}
    {ad_least_walk : Addr} {od_least_walk an_least_walk : Option Addr} {sl_least_walk : Array (Option Value)} {oc_least_walk kV_least_walk dc_least_walk pm_least_walk cd_least_walk ct_least_walk : Value}
    {ad_layers : Addr} {od_layers an_layers : Option Addr} {sl_layers : Array (Option Value)} {oc_layers kV_layers dc_layers pm_layers cd_layers ct_layers : Value}
    {ad_l_mix : Addr} {od_l_mix an_l_mix : Option Addr} {sl_l_mix : Array (Option Value)} {oc_l_mix kV_l_mix dc_l_mix pm_l_mix cd_l_mix ct_l_mix : Value}
    {ad_l_whole : Addr} {od_l_whole an_l_whole : Option Addr} {sl_l_whole : Array (Option Value)} {oc_l_whole kV_l_whole dc_l_whole pm_l_whole cd_l_whole ct_l_whole : Value}
    {ad_l_cell_at : Addr} {od_l_cell_at an_l_cell_at : Option Addr} {sl_l_cell_at : Array (Option Value)} {oc_l_cell_at kV_l_cell_at dc_l_cell_at pm_l_cell_at cd_l_cell_at ct_l_cell_at : Value}
    {ad_l_size : Addr} {od_l_size an_l_size : Option Addr} {sl_l_size : Array (Option Value)} {oc_l_size kV_l_size dc_l_size pm_l_size cd_l_size ct_l_size : Value}
    {ad_l_lock : Addr} {od_l_lock an_l_lock : Option Addr} {sl_l_lock : Array (Option Value)} {oc_l_lock kV_l_lock dc_l_lock pm_l_lock cd_l_lock ct_l_lock : Value}
    {ad_l_rank : Addr} {od_l_rank an_l_rank : Option Addr} {sl_l_rank : Array (Option Value)} {oc_l_rank kV_l_rank dc_l_rank pm_l_rank cd_l_rank ct_l_rank : Value}
    {ad_l_ranks : Addr} {od_l_ranks an_l_ranks : Option Addr} {sl_l_ranks : Array (Option Value)} {oc_l_ranks kV_l_ranks dc_l_ranks pm_l_ranks cd_l_ranks ct_l_ranks : Value}
    {ad_l_many : Addr} {od_l_many an_l_many : Option Addr} {sl_l_many : Array (Option Value)} {oc_l_many kV_l_many dc_l_many pm_l_many cd_l_many ct_l_many : Value}
    {ad_l_mixed : Addr} {od_l_mixed an_l_mixed : Option Addr} {sl_l_mixed : Array (Option Value)} {oc_l_mixed kV_l_mixed dc_l_mixed pm_l_mixed cd_l_mixed ct_l_mixed : Value}
    {ad_l_built : Addr} {od_l_built an_l_built : Option Addr} {sl_l_built : Array (Option Value)} {oc_l_built kV_l_built dc_l_built pm_l_built cd_l_built ct_l_built : Value}
    {ad_l_doors : Addr} {od_l_doors an_l_doors : Option Addr} {sl_l_doors : Array (Option Value)} {oc_l_doors kV_l_doors dc_l_doors pm_l_doors cd_l_doors ct_l_doors : Value}
    {ad_l_lying : Addr} {od_l_lying an_l_lying : Option Addr} {sl_l_lying : Array (Option Value)} {oc_l_lying kV_l_lying dc_l_lying pm_l_lying cd_l_lying ct_l_lying : Value}
    {ad_l_taken : Addr} {od_l_taken an_l_taken : Option Addr} {sl_l_taken : Array (Option Value)} {oc_l_taken kV_l_taken dc_l_taken pm_l_taken cd_l_taken ct_l_taken : Value}
    {ad_l_steps : Addr} {od_l_steps an_l_steps : Option Addr} {sl_l_steps : Array (Option Value)} {oc_l_steps kV_l_steps dc_l_steps pm_l_steps cd_l_steps ct_l_steps : Value}
    {ad_l_hand : Addr} {od_l_hand an_l_hand : Option Addr} {sl_l_hand : Array (Option Value)} {oc_l_hand kV_l_hand dc_l_hand pm_l_hand cd_l_hand ct_l_hand : Value}
    {ad_l_walks : Addr} {od_l_walks an_l_walks : Option Addr} {sl_l_walks : Array (Option Value)} {oc_l_walks kV_l_walks dc_l_walks pm_l_walks cd_l_walks ct_l_walks : Value}
    {ad_l_is_state : Addr} {od_l_is_state an_l_is_state : Option Addr} {sl_l_is_state : Array (Option Value)} {oc_l_is_state kV_l_is_state dc_l_is_state pm_l_is_state cd_l_is_state ct_l_is_state : Value}
    {ad_l_none_shorter : Addr} {od_l_none_shorter an_l_none_shorter : Option Addr} {sl_l_none_shorter : Array (Option Value)} {oc_l_none_shorter kV_l_none_shorter dc_l_none_shorter pm_l_none_shorter cd_l_none_shorter ct_l_none_shorter : Value}
    {ad_l_shut : Addr} {od_l_shut an_l_shut : Option Addr} {sl_l_shut : Array (Option Value)} {oc_l_shut kV_l_shut dc_l_shut pm_l_shut cd_l_shut ct_l_shut : Value}
    {ad_l_goal : Addr} {od_l_goal an_l_goal : Option Addr} {sl_l_goal : Array (Option Value)} {oc_l_goal kV_l_goal dc_l_goal pm_l_goal cd_l_goal ct_l_goal : Value}
    {ad_law : Addr} {od_law an_law : Option Addr} {sl_law : Array (Option Value)} {oc_law kV_law dc_law pm_law cd_law ct_law : Value}
    {ac_MazeError : Addr}
    {ac_NoRoom : Addr}
    (a_need_room : PySem.W.nsIn K mainGlobals "need_room" = some (some (.ref ad_need_room)))
    (l_need_room : K.lookup ad_need_room = some ⟨oc_need_room, od_need_room, .func (PySem.W.fnOf "need_room" "need_room" (defArgs s_need_room) (defBody s_need_room) (defScope s_need_room) .none kV_need_room dc_need_room pm_need_room an_need_room cd_need_room ct_need_room), sl_need_room⟩)
    (c_need_room : PySem.W.codeIn K cd_need_room "need_room" = true)
    (k_need_room : PySem.W.keepIn K (.ref ad_need_room) = true)
    (a_keys_in : PySem.W.nsIn K mainGlobals "keys_in" = some (some (.ref ad_keys_in)))
    (l_keys_in : K.lookup ad_keys_in = some ⟨oc_keys_in, od_keys_in, .func (PySem.W.fnOf "keys_in" "keys_in" (defArgs s_keys_in) (defBody s_keys_in) (defScope s_keys_in) .none kV_keys_in dc_keys_in pm_keys_in an_keys_in cd_keys_in ct_keys_in), sl_keys_in⟩)
    (c_keys_in : PySem.W.codeIn K cd_keys_in "keys_in" = true)
    (k_keys_in : PySem.W.keepIn K (.ref ad_keys_in) = true)
    (a_keys_among : PySem.W.nsIn K mainGlobals "keys_among" = some (some (.ref ad_keys_among)))
    (l_keys_among : K.lookup ad_keys_among = some ⟨oc_keys_among, od_keys_among, .func (PySem.W.fnOf "keys_among" "keys_among" (defArgs s_keys_among) (defBody s_keys_among) (defScope s_keys_among) .none kV_keys_among dc_keys_among pm_keys_among an_keys_among cd_keys_among ct_keys_among), sl_keys_among⟩)
    (c_keys_among : PySem.W.codeIn K cd_keys_among "keys_among" = true)
    (k_keys_among : PySem.W.keepIn K (.ref ad_keys_among) = true)
    (a_taken : PySem.W.nsIn K mainGlobals "taken" = some (some (.ref ad_taken)))
    (l_taken : K.lookup ad_taken = some ⟨oc_taken, od_taken, .func (PySem.W.fnOf "taken" "taken" (defArgs s_taken) (defBody s_taken) (defScope s_taken) .none kV_taken dc_taken pm_taken an_taken cd_taken ct_taken), sl_taken⟩)
    (c_taken : PySem.W.codeIn K cd_taken "taken" = true)
    (k_taken : PySem.W.keepIn K (.ref ad_taken) = true)
    (a_opens : PySem.W.nsIn K mainGlobals "opens" = some (some (.ref ad_opens)))
    (l_opens : K.lookup ad_opens = some ⟨oc_opens, od_opens, .func (PySem.W.fnOf "opens" "opens" (defArgs s_opens) (defBody s_opens) (defScope s_opens) .none kV_opens dc_opens pm_opens an_opens cd_opens ct_opens), sl_opens⟩)
    (c_opens : PySem.W.codeIn K cd_opens "opens" = true)
    (k_opens : PySem.W.keepIn K (.ref ad_opens) = true)
    (a_steps : PySem.W.nsIn K mainGlobals "steps" = some (some (.ref ad_steps)))
    (l_steps : K.lookup ad_steps = some ⟨oc_steps, od_steps, .func (PySem.W.fnOf "steps" "steps" (defArgs s_steps) (defBody s_steps) (defScope s_steps) .none kV_steps dc_steps pm_steps an_steps cd_steps ct_steps), sl_steps⟩)
    (c_steps : PySem.W.codeIn K cd_steps "steps" = true)
    (k_steps : PySem.W.keepIn K (.ref ad_steps) = true)
    (a_far_end : PySem.W.nsIn K mainGlobals "far_end" = some (some (.ref ad_far_end)))
    (l_far_end : K.lookup ad_far_end = some ⟨oc_far_end, od_far_end, .func (PySem.W.fnOf "far_end" "far_end" (defArgs s_far_end) (defBody s_far_end) (defScope s_far_end) .none kV_far_end dc_far_end pm_far_end an_far_end cd_far_end ct_far_end), sl_far_end⟩)
    (c_far_end : PySem.W.codeIn K cd_far_end "far_end" = true)
    (k_far_end : PySem.W.keepIn K (.ref ad_far_end) = true)
    (a_come : PySem.W.nsIn K mainGlobals "come" = some (some (.ref ad_come)))
    (l_come : K.lookup ad_come = some ⟨oc_come, od_come, .func (PySem.W.fnOf "come" "come" (defArgs s_come) (defBody s_come) (defScope s_come) .none kV_come dc_come pm_come an_come cd_come ct_come), sl_come⟩)
    (c_come : PySem.W.codeIn K cd_come "come" = true)
    (k_come : PySem.W.keepIn K (.ref ad_come) = true)
    (a_ways_out : PySem.W.nsIn K mainGlobals "ways_out" = some (some (.ref ad_ways_out)))
    (l_ways_out : K.lookup ad_ways_out = some ⟨oc_ways_out, od_ways_out, .func (PySem.W.fnOf "ways_out" "ways_out" (defArgs s_ways_out) (defBody s_ways_out) (defScope s_ways_out) .none kV_ways_out dc_ways_out pm_ways_out an_ways_out cd_ways_out ct_ways_out), sl_ways_out⟩)
    (c_ways_out : PySem.W.codeIn K cd_ways_out "ways_out" = true)
    (k_ways_out : PySem.W.keepIn K (.ref ad_ways_out) = true)
    (a_guide : PySem.W.nsIn K mainGlobals "guide" = some (some (.ref ad_guide)))
    (l_guide : K.lookup ad_guide = some ⟨oc_guide, od_guide, .func (PySem.W.fnOf "guide" "guide" (defArgs s_guide) (defBody s_guide) (defScope s_guide) .none kV_guide dc_guide pm_guide an_guide cd_guide ct_guide), sl_guide⟩)
    (c_guide : PySem.W.codeIn K cd_guide "guide" = true)
    (k_guide : PySem.W.keepIn K (.ref ad_guide) = true)
    (a_least_walk : PySem.W.nsIn K mainGlobals "least_walk" = some (some (.ref ad_least_walk)))
    (l_least_walk : K.lookup ad_least_walk = some ⟨oc_least_walk, od_least_walk, .func (PySem.W.fnOf "least_walk" "least_walk" (defArgs s_least_walk) (defBody s_least_walk) (defScope s_least_walk) .none kV_least_walk dc_least_walk pm_least_walk an_least_walk cd_least_walk ct_least_walk), sl_least_walk⟩)
    (c_least_walk : PySem.W.codeIn K cd_least_walk "least_walk" = true)
    (k_least_walk : PySem.W.keepIn K (.ref ad_least_walk) = true)
    (a_layers : PySem.W.nsIn K mainGlobals "layers" = some (some (.ref ad_layers)))
    (l_layers : K.lookup ad_layers = some ⟨oc_layers, od_layers, .func (PySem.W.fnOf "layers" "layers" (defArgs s_layers) (defBody s_layers) (defScope s_layers) .none kV_layers dc_layers pm_layers an_layers cd_layers ct_layers), sl_layers⟩)
    (c_layers : PySem.W.codeIn K cd_layers "layers" = true)
    (k_layers : PySem.W.keepIn K (.ref ad_layers) = true)
    (a_l_mix : PySem.W.nsIn K mainGlobals "_law_mix" = some (some (.ref ad_l_mix)))
    (l_l_mix : K.lookup ad_l_mix = some ⟨oc_l_mix, od_l_mix, .func (PySem.W.fnOf "_law_mix" "_law_mix" (defArgs s_l_mix) (defBody s_l_mix) (defScope s_l_mix) .none kV_l_mix dc_l_mix pm_l_mix an_l_mix cd_l_mix ct_l_mix), sl_l_mix⟩)
    (c_l_mix : PySem.W.codeIn K cd_l_mix "_law_mix" = true)
    (k_l_mix : PySem.W.keepIn K (.ref ad_l_mix) = true)
    (a_l_whole : PySem.W.nsIn K mainGlobals "_law_whole" = some (some (.ref ad_l_whole)))
    (l_l_whole : K.lookup ad_l_whole = some ⟨oc_l_whole, od_l_whole, .func (PySem.W.fnOf "_law_whole" "_law_whole" (defArgs s_l_whole) (defBody s_l_whole) (defScope s_l_whole) .none kV_l_whole dc_l_whole pm_l_whole an_l_whole cd_l_whole ct_l_whole), sl_l_whole⟩)
    (c_l_whole : PySem.W.codeIn K cd_l_whole "_law_whole" = true)
    (k_l_whole : PySem.W.keepIn K (.ref ad_l_whole) = true)
    (a_l_cell_at : PySem.W.nsIn K mainGlobals "_law_cell_at" = some (some (.ref ad_l_cell_at)))
    (l_l_cell_at : K.lookup ad_l_cell_at = some ⟨oc_l_cell_at, od_l_cell_at, .func (PySem.W.fnOf "_law_cell_at" "_law_cell_at" (defArgs s_l_cell_at) (defBody s_l_cell_at) (defScope s_l_cell_at) .none kV_l_cell_at dc_l_cell_at pm_l_cell_at an_l_cell_at cd_l_cell_at ct_l_cell_at), sl_l_cell_at⟩)
    (c_l_cell_at : PySem.W.codeIn K cd_l_cell_at "_law_cell_at" = true)
    (k_l_cell_at : PySem.W.keepIn K (.ref ad_l_cell_at) = true)
    (a_l_size : PySem.W.nsIn K mainGlobals "_law_size" = some (some (.ref ad_l_size)))
    (l_l_size : K.lookup ad_l_size = some ⟨oc_l_size, od_l_size, .func (PySem.W.fnOf "_law_size" "_law_size" (defArgs s_l_size) (defBody s_l_size) (defScope s_l_size) .none kV_l_size dc_l_size pm_l_size an_l_size cd_l_size ct_l_size), sl_l_size⟩)
    (c_l_size : PySem.W.codeIn K cd_l_size "_law_size" = true)
    (k_l_size : PySem.W.keepIn K (.ref ad_l_size) = true)
    (a_l_lock : PySem.W.nsIn K mainGlobals "_law_lock" = some (some (.ref ad_l_lock)))
    (l_l_lock : K.lookup ad_l_lock = some ⟨oc_l_lock, od_l_lock, .func (PySem.W.fnOf "_law_lock" "_law_lock" (defArgs s_l_lock) (defBody s_l_lock) (defScope s_l_lock) .none kV_l_lock dc_l_lock pm_l_lock an_l_lock cd_l_lock ct_l_lock), sl_l_lock⟩)
    (c_l_lock : PySem.W.codeIn K cd_l_lock "_law_lock" = true)
    (k_l_lock : PySem.W.keepIn K (.ref ad_l_lock) = true)
    (a_l_rank : PySem.W.nsIn K mainGlobals "_law_rank" = some (some (.ref ad_l_rank)))
    (l_l_rank : K.lookup ad_l_rank = some ⟨oc_l_rank, od_l_rank, .func (PySem.W.fnOf "_law_rank" "_law_rank" (defArgs s_l_rank) (defBody s_l_rank) (defScope s_l_rank) .none kV_l_rank dc_l_rank pm_l_rank an_l_rank cd_l_rank ct_l_rank), sl_l_rank⟩)
    (c_l_rank : PySem.W.codeIn K cd_l_rank "_law_rank" = true)
    (k_l_rank : PySem.W.keepIn K (.ref ad_l_rank) = true)
    (a_l_ranks : PySem.W.nsIn K mainGlobals "_law_ranks" = some (some (.ref ad_l_ranks)))
    (l_l_ranks : K.lookup ad_l_ranks = some ⟨oc_l_ranks, od_l_ranks, .func (PySem.W.fnOf "_law_ranks" "_law_ranks" (defArgs s_l_ranks) (defBody s_l_ranks) (defScope s_l_ranks) .none kV_l_ranks dc_l_ranks pm_l_ranks an_l_ranks cd_l_ranks ct_l_ranks), sl_l_ranks⟩)
    (c_l_ranks : PySem.W.codeIn K cd_l_ranks "_law_ranks" = true)
    (k_l_ranks : PySem.W.keepIn K (.ref ad_l_ranks) = true)
    (a_l_many : PySem.W.nsIn K mainGlobals "_law_many" = some (some (.ref ad_l_many)))
    (l_l_many : K.lookup ad_l_many = some ⟨oc_l_many, od_l_many, .func (PySem.W.fnOf "_law_many" "_law_many" (defArgs s_l_many) (defBody s_l_many) (defScope s_l_many) .none kV_l_many dc_l_many pm_l_many an_l_many cd_l_many ct_l_many), sl_l_many⟩)
    (c_l_many : PySem.W.codeIn K cd_l_many "_law_many" = true)
    (k_l_many : PySem.W.keepIn K (.ref ad_l_many) = true)
    (a_l_mixed : PySem.W.nsIn K mainGlobals "_law_mixed" = some (some (.ref ad_l_mixed)))
    (l_l_mixed : K.lookup ad_l_mixed = some ⟨oc_l_mixed, od_l_mixed, .func (PySem.W.fnOf "_law_mixed" "_law_mixed" (defArgs s_l_mixed) (defBody s_l_mixed) (defScope s_l_mixed) .none kV_l_mixed dc_l_mixed pm_l_mixed an_l_mixed cd_l_mixed ct_l_mixed), sl_l_mixed⟩)
    (c_l_mixed : PySem.W.codeIn K cd_l_mixed "_law_mixed" = true)
    (k_l_mixed : PySem.W.keepIn K (.ref ad_l_mixed) = true)
    (a_l_built : PySem.W.nsIn K mainGlobals "_law_built" = some (some (.ref ad_l_built)))
    (l_l_built : K.lookup ad_l_built = some ⟨oc_l_built, od_l_built, .func (PySem.W.fnOf "_law_built" "_law_built" (defArgs s_l_built) (defBody s_l_built) (defScope s_l_built) .none kV_l_built dc_l_built pm_l_built an_l_built cd_l_built ct_l_built), sl_l_built⟩)
    (c_l_built : PySem.W.codeIn K cd_l_built "_law_built" = true)
    (k_l_built : PySem.W.keepIn K (.ref ad_l_built) = true)
    (a_l_doors : PySem.W.nsIn K mainGlobals "_law_doors" = some (some (.ref ad_l_doors)))
    (l_l_doors : K.lookup ad_l_doors = some ⟨oc_l_doors, od_l_doors, .func (PySem.W.fnOf "_law_doors" "_law_doors" (defArgs s_l_doors) (defBody s_l_doors) (defScope s_l_doors) .none kV_l_doors dc_l_doors pm_l_doors an_l_doors cd_l_doors ct_l_doors), sl_l_doors⟩)
    (c_l_doors : PySem.W.codeIn K cd_l_doors "_law_doors" = true)
    (k_l_doors : PySem.W.keepIn K (.ref ad_l_doors) = true)
    (a_l_lying : PySem.W.nsIn K mainGlobals "_law_lying" = some (some (.ref ad_l_lying)))
    (l_l_lying : K.lookup ad_l_lying = some ⟨oc_l_lying, od_l_lying, .func (PySem.W.fnOf "_law_lying" "_law_lying" (defArgs s_l_lying) (defBody s_l_lying) (defScope s_l_lying) .none kV_l_lying dc_l_lying pm_l_lying an_l_lying cd_l_lying ct_l_lying), sl_l_lying⟩)
    (c_l_lying : PySem.W.codeIn K cd_l_lying "_law_lying" = true)
    (k_l_lying : PySem.W.keepIn K (.ref ad_l_lying) = true)
    (a_l_taken : PySem.W.nsIn K mainGlobals "_law_taken" = some (some (.ref ad_l_taken)))
    (l_l_taken : K.lookup ad_l_taken = some ⟨oc_l_taken, od_l_taken, .func (PySem.W.fnOf "_law_taken" "_law_taken" (defArgs s_l_taken) (defBody s_l_taken) (defScope s_l_taken) .none kV_l_taken dc_l_taken pm_l_taken an_l_taken cd_l_taken ct_l_taken), sl_l_taken⟩)
    (c_l_taken : PySem.W.codeIn K cd_l_taken "_law_taken" = true)
    (k_l_taken : PySem.W.keepIn K (.ref ad_l_taken) = true)
    (a_l_steps : PySem.W.nsIn K mainGlobals "_law_steps" = some (some (.ref ad_l_steps)))
    (l_l_steps : K.lookup ad_l_steps = some ⟨oc_l_steps, od_l_steps, .func (PySem.W.fnOf "_law_steps" "_law_steps" (defArgs s_l_steps) (defBody s_l_steps) (defScope s_l_steps) .none kV_l_steps dc_l_steps pm_l_steps an_l_steps cd_l_steps ct_l_steps), sl_l_steps⟩)
    (c_l_steps : PySem.W.codeIn K cd_l_steps "_law_steps" = true)
    (k_l_steps : PySem.W.keepIn K (.ref ad_l_steps) = true)
    (a_l_hand : PySem.W.nsIn K mainGlobals "_law_hand" = some (some (.ref ad_l_hand)))
    (l_l_hand : K.lookup ad_l_hand = some ⟨oc_l_hand, od_l_hand, .func (PySem.W.fnOf "_law_hand" "_law_hand" (defArgs s_l_hand) (defBody s_l_hand) (defScope s_l_hand) .none kV_l_hand dc_l_hand pm_l_hand an_l_hand cd_l_hand ct_l_hand), sl_l_hand⟩)
    (c_l_hand : PySem.W.codeIn K cd_l_hand "_law_hand" = true)
    (k_l_hand : PySem.W.keepIn K (.ref ad_l_hand) = true)
    (a_l_walks : PySem.W.nsIn K mainGlobals "_law_walks" = some (some (.ref ad_l_walks)))
    (l_l_walks : K.lookup ad_l_walks = some ⟨oc_l_walks, od_l_walks, .func (PySem.W.fnOf "_law_walks" "_law_walks" (defArgs s_l_walks) (defBody s_l_walks) (defScope s_l_walks) .none kV_l_walks dc_l_walks pm_l_walks an_l_walks cd_l_walks ct_l_walks), sl_l_walks⟩)
    (c_l_walks : PySem.W.codeIn K cd_l_walks "_law_walks" = true)
    (k_l_walks : PySem.W.keepIn K (.ref ad_l_walks) = true)
    (a_l_is_state : PySem.W.nsIn K mainGlobals "_law_is_state" = some (some (.ref ad_l_is_state)))
    (l_l_is_state : K.lookup ad_l_is_state = some ⟨oc_l_is_state, od_l_is_state, .func (PySem.W.fnOf "_law_is_state" "_law_is_state" (defArgs s_l_is_state) (defBody s_l_is_state) (defScope s_l_is_state) .none kV_l_is_state dc_l_is_state pm_l_is_state an_l_is_state cd_l_is_state ct_l_is_state), sl_l_is_state⟩)
    (c_l_is_state : PySem.W.codeIn K cd_l_is_state "_law_is_state" = true)
    (k_l_is_state : PySem.W.keepIn K (.ref ad_l_is_state) = true)
    (a_l_none_shorter : PySem.W.nsIn K mainGlobals "_law_none_shorter" = some (some (.ref ad_l_none_shorter)))
    (l_l_none_shorter : K.lookup ad_l_none_shorter = some ⟨oc_l_none_shorter, od_l_none_shorter, .func (PySem.W.fnOf "_law_none_shorter" "_law_none_shorter" (defArgs s_l_none_shorter) (defBody s_l_none_shorter) (defScope s_l_none_shorter) .none kV_l_none_shorter dc_l_none_shorter pm_l_none_shorter an_l_none_shorter cd_l_none_shorter ct_l_none_shorter), sl_l_none_shorter⟩)
    (c_l_none_shorter : PySem.W.codeIn K cd_l_none_shorter "_law_none_shorter" = true)
    (k_l_none_shorter : PySem.W.keepIn K (.ref ad_l_none_shorter) = true)
    (a_l_shut : PySem.W.nsIn K mainGlobals "_law_shut" = some (some (.ref ad_l_shut)))
    (l_l_shut : K.lookup ad_l_shut = some ⟨oc_l_shut, od_l_shut, .func (PySem.W.fnOf "_law_shut" "_law_shut" (defArgs s_l_shut) (defBody s_l_shut) (defScope s_l_shut) .none kV_l_shut dc_l_shut pm_l_shut an_l_shut cd_l_shut ct_l_shut), sl_l_shut⟩)
    (c_l_shut : PySem.W.codeIn K cd_l_shut "_law_shut" = true)
    (k_l_shut : PySem.W.keepIn K (.ref ad_l_shut) = true)
    (a_l_goal : PySem.W.nsIn K mainGlobals "_law_goal" = some (some (.ref ad_l_goal)))
    (l_l_goal : K.lookup ad_l_goal = some ⟨oc_l_goal, od_l_goal, .func (PySem.W.fnOf "_law_goal" "_law_goal" (defArgs s_l_goal) (defBody s_l_goal) (defScope s_l_goal) .none kV_l_goal dc_l_goal pm_l_goal an_l_goal cd_l_goal ct_l_goal), sl_l_goal⟩)
    (c_l_goal : PySem.W.codeIn K cd_l_goal "_law_goal" = true)
    (k_l_goal : PySem.W.keepIn K (.ref ad_l_goal) = true)
    (a_law : PySem.W.nsIn K mainGlobals "law" = some (some (.ref ad_law)))
    (l_law : K.lookup ad_law = some ⟨oc_law, od_law, .func (PySem.W.fnOf "law" "law" (defArgs s_law) (defBody s_law) (defScope s_law) .none kV_law dc_law pm_law an_law cd_law ct_law), sl_law⟩)
    (c_law : PySem.W.codeIn K cd_law "law" = true)
    (k_law : PySem.W.keepIn K (.ref ad_law) = true)
    (q_MazeError : PySem.W.nsIn K mainGlobals "MazeError" = some (some (.ref ac_MazeError)))
    (x_MazeError : PySem.W.excIn K ac_MazeError [.type "ValueError", .type "Exception", .type "BaseException", .type "object"] "ValueError.__new__" = true)
    (kk_MazeError : PySem.W.keepIn K (.ref ac_MazeError) = true)
    (b_MazeError : PySem.W.subIn K (.ref ac_MazeError) (.type "BaseException") = some true)
    (t_MazeError : PySem.W.typeIn K (.ref ac_MazeError) = some (.type "type"))
    (i_MazeError : PySem.W.isClsIn K ac_MazeError = true)
    (q_NoRoom : PySem.W.nsIn K mainGlobals "NoRoom" = some (some (.ref ac_NoRoom)))
    (x_NoRoom : PySem.W.excIn K ac_NoRoom [.type "ValueError", .type "Exception", .type "BaseException", .type "object"] "ValueError.__new__" = true)
    (kk_NoRoom : PySem.W.keepIn K (.ref ac_NoRoom) = true)
    (b_NoRoom : PySem.W.subIn K (.ref ac_NoRoom) (.type "BaseException") = some true)
    (t_NoRoom : PySem.W.typeIn K (.ref ac_NoRoom) = some (.type "type"))
    (i_NoRoom : PySem.W.isClsIn K ac_NoRoom = true)
    (s_NoRoom_NoRoom : PySem.W.subIn K (.ref ac_NoRoom) (.ref ac_NoRoom) = some true)
    (z_bool : PySem.W.nsIn K mainGlobals "bool" = some none)
    (z_int : PySem.W.nsIn K mainGlobals "int" = some none)
    (z_isinstance : PySem.W.nsIn K mainGlobals "isinstance" = some none)
    (z_len : PySem.W.nsIn K mainGlobals "len" = some none)
    (z_list : PySem.W.nsIn K mainGlobals "list" = some none)
    (z_min : PySem.W.nsIn K mainGlobals "min" = some none)
    (z_range : PySem.W.nsIn K mainGlobals "range" = some none)
    (z_set : PySem.W.nsIn K mainGlobals "set" = some none)
    (z_sorted : PySem.W.nsIn K mainGlobals "sorted" = some none)
    (z_tuple : PySem.W.nsIn K mainGlobals "tuple" = some none)
    : ∃ fd : FuncData, (∀ (s : Shared) (v : Value), BindsTo s fd ⟨[v], []⟩ [("_law_script", v)]) ∧ ∀ base : Heap, K.In base → base.Ns mainGlobals mg → FnOk l.prog w K mg base CX0 7 fa fd ["_law_script"] (spLaw K) := by
  have e : fa = ad_law := by
    have z := hfa.symm.trans (PySem.W.mg_of X G a_law)
    injection z with z
    injection z
  have f_need_room := fun_mk (st := s_need_room) l_need_room c_need_room k_need_room
  have f_keys_in := fun_mk (st := s_keys_in) l_keys_in c_keys_in k_keys_in
  have f_keys_among := fun_mk (st := s_keys_among) l_keys_among c_keys_among k_keys_among
  have f_taken := fun_mk (st := s_taken) l_taken c_taken k_taken
  have f_opens := fun_mk (st := s_opens) l_opens c_opens k_opens
  have f_steps := fun_mk (st := s_steps) l_steps c_steps k_steps
  have f_far_end := fun_mk (st := s_far_end) l_far_end c_far_end k_far_end
  have f_come := fun_mk (st := s_come) l_come c_come k_come
  have f_ways_out := fun_mk (st := s_ways_out) l_ways_out c_ways_out k_ways_out
  have f_guide := fun_mk (st := s_guide) l_guide c_guide k_guide
  have f_least_walk := fun_mk (st := s_least_walk) l_least_walk c_least_walk k_least_walk
  have f_layers := fun_mk (st := s_layers) l_layers c_layers k_layers
  have f_l_mix := fun_mk (st := s_l_mix) l_l_mix c_l_mix k_l_mix
  have f_l_whole := fun_mk (st := s_l_whole) l_l_whole c_l_whole k_l_whole
  have f_l_cell_at := fun_mk (st := s_l_cell_at) l_l_cell_at c_l_cell_at k_l_cell_at
  have f_l_size := fun_mk (st := s_l_size) l_l_size c_l_size k_l_size
  have f_l_lock := fun_mk (st := s_l_lock) l_l_lock c_l_lock k_l_lock
  have f_l_rank := fun_mk (st := s_l_rank) l_l_rank c_l_rank k_l_rank
  have f_l_ranks := fun_mk (st := s_l_ranks) l_l_ranks c_l_ranks k_l_ranks
  have f_l_many := fun_mk (st := s_l_many) l_l_many c_l_many k_l_many
  have f_l_mixed := fun_mk (st := s_l_mixed) l_l_mixed c_l_mixed k_l_mixed
  have f_l_built := fun_mk (st := s_l_built) l_l_built c_l_built k_l_built
  have f_l_doors := fun_mk (st := s_l_doors) l_l_doors c_l_doors k_l_doors
  have f_l_lying := fun_mk (st := s_l_lying) l_l_lying c_l_lying k_l_lying
  have f_l_taken := fun_mk (st := s_l_taken) l_l_taken c_l_taken k_l_taken
  have f_l_steps := fun_mk (st := s_l_steps) l_l_steps c_l_steps k_l_steps
  have f_l_hand := fun_mk (st := s_l_hand) l_l_hand c_l_hand k_l_hand
  have f_l_walks := fun_mk (st := s_l_walks) l_l_walks c_l_walks k_l_walks
  have f_l_is_state := fun_mk (st := s_l_is_state) l_l_is_state c_l_is_state k_l_is_state
  have f_l_none_shorter := fun_mk (st := s_l_none_shorter) l_l_none_shorter c_l_none_shorter k_l_none_shorter
  have f_l_shut := fun_mk (st := s_l_shut) l_l_shut c_l_shut k_l_shut
  have f_l_goal := fun_mk (st := s_l_goal) l_l_goal c_l_goal k_l_goal
  have f_law := fun_mk (st := s_law) l_law c_law k_law
  have T : Txt K mg { a_need_room := ad_need_room, d_need_room := PySem.W.fnOf "need_room" "need_room" (defArgs s_need_room) (defBody s_need_room) (defScope s_need_room) .none kV_need_room dc_need_room pm_need_room an_need_room cd_need_room ct_need_room, a_keys_in := ad_keys_in, d_keys_in := PySem.W.fnOf "keys_in" "keys_in" (defArgs s_keys_in) (defBody s_keys_in) (defScope s_keys_in) .none kV_keys_in dc_keys_in pm_keys_in an_keys_in cd_keys_in ct_keys_in, a_keys_among := ad_keys_among, d_keys_among := PySem.W.fnOf "keys_among" "keys_among" (defArgs s_keys_among) (defBody s_keys_among) (defScope s_keys_among) .none kV_keys_among dc_keys_among pm_keys_among an_keys_among cd_keys_among ct_keys_among, a_taken := ad_taken, d_taken := PySem.W.fnOf "taken" "taken" (defArgs s_taken) (defBody s_taken) (defScope s_taken) .none kV_taken dc_taken pm_taken an_taken cd_taken ct_taken, a_opens := ad_opens, d_opens := PySem.W.fnOf "opens" "opens" (defArgs s_opens) (defBody s_opens) (defScope s_opens) .none kV_opens dc_opens pm_opens an_opens cd_opens ct_opens, a_steps := ad_steps, d_steps := PySem.W.fnOf "steps" "steps" (defArgs s_steps) (defBody s_steps) (defScope s_steps) .none kV_steps dc_steps pm_steps an_steps cd_steps ct_steps, a_far_end := ad_far_end, d_far_end := PySem.W.fnOf "far_end" "far_end" (defArgs s_far_end) (defBody s_far_end) (defScope s_far_end) .none kV_far_end dc_far_end pm_far_end an_far_end cd_far_end ct_far_end, a_come := ad_come, d_come := PySem.W.fnOf "come" "come" (defArgs s_come) (defBody s_come) (defScope s_come) .none kV_come dc_come pm_come an_come cd_come ct_come, a_ways_out := ad_ways_out, d_ways_out := PySem.W.fnOf "ways_out" "ways_out" (defArgs s_ways_out) (defBody s_ways_out) (defScope s_ways_out) .none kV_ways_out dc_ways_out pm_ways_out an_ways_out cd_ways_out ct_ways_out, a_guide := ad_guide, d_guide := PySem.W.fnOf "guide" "guide" (defArgs s_guide) (defBody s_guide) (defScope s_guide) .none kV_guide dc_guide pm_guide an_guide cd_guide ct_guide, a_least_walk := ad_least_walk, d_least_walk := PySem.W.fnOf "least_walk" "least_walk" (defArgs s_least_walk) (defBody s_least_walk) (defScope s_least_walk) .none kV_least_walk dc_least_walk pm_least_walk an_least_walk cd_least_walk ct_least_walk, a_layers := ad_layers, d_layers := PySem.W.fnOf "layers" "layers" (defArgs s_layers) (defBody s_layers) (defScope s_layers) .none kV_layers dc_layers pm_layers an_layers cd_layers ct_layers, a_l_mix := ad_l_mix, d_l_mix := PySem.W.fnOf "_law_mix" "_law_mix" (defArgs s_l_mix) (defBody s_l_mix) (defScope s_l_mix) .none kV_l_mix dc_l_mix pm_l_mix an_l_mix cd_l_mix ct_l_mix, a_l_whole := ad_l_whole, d_l_whole := PySem.W.fnOf "_law_whole" "_law_whole" (defArgs s_l_whole) (defBody s_l_whole) (defScope s_l_whole) .none kV_l_whole dc_l_whole pm_l_whole an_l_whole cd_l_whole ct_l_whole, a_l_cell_at := ad_l_cell_at, d_l_cell_at := PySem.W.fnOf "_law_cell_at" "_law_cell_at" (defArgs s_l_cell_at) (defBody s_l_cell_at) (defScope s_l_cell_at) .none kV_l_cell_at dc_l_cell_at pm_l_cell_at an_l_cell_at cd_l_cell_at ct_l_cell_at, a_l_size := ad_l_size, d_l_size := PySem.W.fnOf "_law_size" "_law_size" (defArgs s_l_size) (defBody s_l_size) (defScope s_l_size) .none kV_l_size dc_l_size pm_l_size an_l_size cd_l_size ct_l_size, a_l_lock := ad_l_lock, d_l_lock := PySem.W.fnOf "_law_lock" "_law_lock" (defArgs s_l_lock) (defBody s_l_lock) (defScope s_l_lock) .none kV_l_lock dc_l_lock pm_l_lock an_l_lock cd_l_lock ct_l_lock, a_l_rank := ad_l_rank, d_l_rank := PySem.W.fnOf "_law_rank" "_law_rank" (defArgs s_l_rank) (defBody s_l_rank) (defScope s_l_rank) .none kV_l_rank dc_l_rank pm_l_rank an_l_rank cd_l_rank ct_l_rank, a_l_ranks := ad_l_ranks, d_l_ranks := PySem.W.fnOf "_law_ranks" "_law_ranks" (defArgs s_l_ranks) (defBody s_l_ranks) (defScope s_l_ranks) .none kV_l_ranks dc_l_ranks pm_l_ranks an_l_ranks cd_l_ranks ct_l_ranks, a_l_many := ad_l_many, d_l_many := PySem.W.fnOf "_law_many" "_law_many" (defArgs s_l_many) (defBody s_l_many) (defScope s_l_many) .none kV_l_many dc_l_many pm_l_many an_l_many cd_l_many ct_l_many, a_l_mixed := ad_l_mixed, d_l_mixed := PySem.W.fnOf "_law_mixed" "_law_mixed" (defArgs s_l_mixed) (defBody s_l_mixed) (defScope s_l_mixed) .none kV_l_mixed dc_l_mixed pm_l_mixed an_l_mixed cd_l_mixed ct_l_mixed, a_l_built := ad_l_built, d_l_built := PySem.W.fnOf "_law_built" "_law_built" (defArgs s_l_built) (defBody s_l_built) (defScope s_l_built) .none kV_l_built dc_l_built pm_l_built an_l_built cd_l_built ct_l_built, a_l_doors := ad_l_doors, d_l_doors := PySem.W.fnOf "_law_doors" "_law_doors" (defArgs s_l_doors) (defBody s_l_doors) (defScope s_l_doors) .none kV_l_doors dc_l_doors pm_l_doors an_l_doors cd_l_doors ct_l_doors, a_l_lying := ad_l_lying, d_l_lying := PySem.W.fnOf "_law_lying" "_law_lying" (defArgs s_l_lying) (defBody s_l_lying) (defScope s_l_lying) .none kV_l_lying dc_l_lying pm_l_lying an_l_lying cd_l_lying ct_l_lying, a_l_taken := ad_l_taken, d_l_taken := PySem.W.fnOf "_law_taken" "_law_taken" (defArgs s_l_taken) (defBody s_l_taken) (defScope s_l_taken) .none kV_l_taken dc_l_taken pm_l_taken an_l_taken cd_l_taken ct_l_taken, a_l_steps := ad_l_steps, d_l_steps := PySem.W.fnOf "_law_steps" "_law_steps" (defArgs s_l_steps) (defBody s_l_steps) (defScope s_l_steps) .none kV_l_steps dc_l_steps pm_l_steps an_l_steps cd_l_steps ct_l_steps, a_l_hand := ad_l_hand, d_l_hand := PySem.W.fnOf "_law_hand" "_law_hand" (defArgs s_l_hand) (defBody s_l_hand) (defScope s_l_hand) .none kV_l_hand dc_l_hand pm_l_hand an_l_hand cd_l_hand ct_l_hand, a_l_walks := ad_l_walks, d_l_walks := PySem.W.fnOf "_law_walks" "_law_walks" (defArgs s_l_walks) (defBody s_l_walks) (defScope s_l_walks) .none kV_l_walks dc_l_walks pm_l_walks an_l_walks cd_l_walks ct_l_walks, a_l_is_state := ad_l_is_state, d_l_is_state := PySem.W.fnOf "_law_is_state" "_law_is_state" (defArgs s_l_is_state) (defBody s_l_is_state) (defScope s_l_is_state) .none kV_l_is_state dc_l_is_state pm_l_is_state an_l_is_state cd_l_is_state ct_l_is_state, a_l_none_shorter := ad_l_none_shorter, d_l_none_shorter := PySem.W.fnOf "_law_none_shorter" "_law_none_shorter" (defArgs s_l_none_shorter) (defBody s_l_none_shorter) (defScope s_l_none_shorter) .none kV_l_none_shorter dc_l_none_shorter pm_l_none_shorter an_l_none_shorter cd_l_none_shorter ct_l_none_shorter, a_l_shut := ad_l_shut, d_l_shut := PySem.W.fnOf "_law_shut" "_law_shut" (defArgs s_l_shut) (defBody s_l_shut) (defScope s_l_shut) .none kV_l_shut dc_l_shut pm_l_shut an_l_shut cd_l_shut ct_l_shut, a_l_goal := ad_l_goal, d_l_goal := PySem.W.fnOf "_law_goal" "_law_goal" (defArgs s_l_goal) (defBody s_l_goal) (defScope s_l_goal) .none kV_l_goal dc_l_goal pm_l_goal an_l_goal cd_l_goal ct_l_goal, a_law := ad_law, d_law := PySem.W.fnOf "law" "law" (defArgs s_law) (defBody s_law) (defScope s_law) .none kV_law dc_law pm_law an_law cd_law ct_law, c_MazeError := ac_MazeError, c_NoRoom := ac_NoRoom } :=
    { g_need_room := PySem.W.mg_of X G a_need_room, f_need_room := f_need_room, g_keys_in := PySem.W.mg_of X G a_keys_in, f_keys_in := f_keys_in, g_keys_among := PySem.W.mg_of X G a_keys_among, f_keys_among := f_keys_among, g_taken := PySem.W.mg_of X G a_taken, f_taken := f_taken, g_opens := PySem.W.mg_of X G a_opens, f_opens := f_opens, g_steps := PySem.W.mg_of X G a_steps, f_steps := f_steps, g_far_end := PySem.W.mg_of X G a_far_end, f_far_end := f_far_end, g_come := PySem.W.mg_of X G a_come, f_come := f_come, g_ways_out := PySem.W.mg_of X G a_ways_out, f_ways_out := f_ways_out, g_guide := PySem.W.mg_of X G a_guide, f_guide := f_guide, g_least_walk := PySem.W.mg_of X G a_least_walk, f_least_walk := f_least_walk, g_layers := PySem.W.mg_of X G a_layers, f_layers := f_layers, g_l_mix := PySem.W.mg_of X G a_l_mix, f_l_mix := f_l_mix, g_l_whole := PySem.W.mg_of X G a_l_whole, f_l_whole := f_l_whole, g_l_cell_at := PySem.W.mg_of X G a_l_cell_at, f_l_cell_at := f_l_cell_at, g_l_size := PySem.W.mg_of X G a_l_size, f_l_size := f_l_size, g_l_lock := PySem.W.mg_of X G a_l_lock, f_l_lock := f_l_lock, g_l_rank := PySem.W.mg_of X G a_l_rank, f_l_rank := f_l_rank, g_l_ranks := PySem.W.mg_of X G a_l_ranks, f_l_ranks := f_l_ranks, g_l_many := PySem.W.mg_of X G a_l_many, f_l_many := f_l_many, g_l_mixed := PySem.W.mg_of X G a_l_mixed, f_l_mixed := f_l_mixed, g_l_built := PySem.W.mg_of X G a_l_built, f_l_built := f_l_built, g_l_doors := PySem.W.mg_of X G a_l_doors, f_l_doors := f_l_doors, g_l_lying := PySem.W.mg_of X G a_l_lying, f_l_lying := f_l_lying, g_l_taken := PySem.W.mg_of X G a_l_taken, f_l_taken := f_l_taken, g_l_steps := PySem.W.mg_of X G a_l_steps, f_l_steps := f_l_steps, g_l_hand := PySem.W.mg_of X G a_l_hand, f_l_hand := f_l_hand, g_l_walks := PySem.W.mg_of X G a_l_walks, f_l_walks := f_l_walks, g_l_is_state := PySem.W.mg_of X G a_l_is_state, f_l_is_state := f_l_is_state, g_l_none_shorter := PySem.W.mg_of X G a_l_none_shorter, f_l_none_shorter := f_l_none_shorter, g_l_shut := PySem.W.mg_of X G a_l_shut, f_l_shut := f_l_shut, g_l_goal := PySem.W.mg_of X G a_l_goal, f_l_goal := f_l_goal, g_law := PySem.W.mg_of X G a_law, f_law := f_law, g_MazeError := PySem.W.mg_of X G q_MazeError, x_MazeError := x_MazeError, k_MazeError := kk_MazeError, b_MazeError := b_MazeError, t_MazeError := t_MazeError, i_MazeError := i_MazeError, g_NoRoom := PySem.W.mg_of X G q_NoRoom, x_NoRoom := x_NoRoom, k_NoRoom := kk_NoRoom, b_NoRoom := b_NoRoom, t_NoRoom := t_NoRoom, i_NoRoom := i_NoRoom, s_NoRoom_NoRoom := s_NoRoom_NoRoom, u_bool := PySem.W.mg_none_of X G z_bool, u_int := PySem.W.mg_none_of X G z_int, u_isinstance := PySem.W.mg_none_of X G z_isinstance, u_len := PySem.W.mg_none_of X G z_len, u_list := PySem.W.mg_none_of X G z_list, u_min := PySem.W.mg_none_of X G z_min, u_range := PySem.W.mg_none_of X G z_range, u_set := PySem.W.mg_none_of X G z_set, u_sorted := PySem.W.mg_none_of X G z_sorted, u_tuple := PySem.W.mg_none_of X G z_tuple }
  rw [e]
  exact ⟨_, fun s v => .of_eq rfl, fun base _ _ => ok_law T⟩
end MG
open PySem PySem.W PyProof.Rows
set_option maxRecDepth 100000 in
set_option maxHeartbeats 0 in
theorem PySem.Challenge.cw_mazeguide_k09_whole_walk_or_shut_holds : PySem.Challenge.rw_mazeguide_k09_whole_walk_or_shut.Holds := by
  w_on; o_law; k_head; (case hw => w_witness2)
  k_fill
  refine L2.walk_of (l := PySem.Challenge.rw_mazeguide_k09_whole_walk_or_shut) (n := 63) (k := 7) (x := "_law_script") (CX := fun _ => L2.CX0) (sp := fun w => MG.spLaw _) rfl (by decide) rfl ⟨rfl, by decide, by decide⟩ (fun w h Y => PySem.W.kIn_of Y) ?F (fun _ _ a ns hl _ hS => ⟨a, ns, rfl, hS, hl, fun _ => rfl⟩) (fun _ _ _ _ _ h => h)
  case F =>
    intro w mg fa h KX G hmg
    refine' MG.all_mk KX G hmg ?a_need_room ?l_need_room ?c_need_room ?k_need_room ?a_keys_in ?l_keys_in ?c_keys_in ?k_keys_in ?a_keys_among ?l_keys_among ?c_keys_among ?k_keys_among ?a_taken ?l_taken ?c_taken ?k_taken ?a_opens ?l_opens ?c_opens ?k_opens ?a_steps ?l_steps ?c_steps ?k_steps ?a_far_end ?l_far_end ?c_far_end ?k_far_end ?a_come ?l_come ?c_come ?k_come ?a_ways_out ?l_ways_out ?c_ways_out ?k_ways_out ?a_guide ?l_guide ?c_guide ?k_guide ?a_least_walk ?l_least_walk ?c_least_walk ?k_least_walk ?a_layers ?l_layers ?c_layers ?k_layers ?a_l_mix ?l_l_mix ?c_l_mix ?k_l_mix ?a_l_whole ?l_l_whole ?c_l_whole ?k_l_whole ?a_l_cell_at ?l_l_cell_at ?c_l_cell_at ?k_l_cell_at ?a_l_size ?l_l_size ?c_l_size ?k_l_size ?a_l_lock ?l_l_lock ?c_l_lock ?k_l_lock ?a_l_rank ?l_l_rank ?c_l_rank ?k_l_rank ?a_l_ranks ?l_l_ranks ?c_l_ranks ?k_l_ranks ?a_l_many ?l_l_many ?c_l_many ?k_l_many ?a_l_mixed ?l_l_mixed ?c_l_mixed ?k_l_mixed ?a_l_built ?l_l_built ?c_l_built ?k_l_built ?a_l_doors ?l_l_doors ?c_l_doors ?k_l_doors ?a_l_lying ?l_l_lying ?c_l_lying ?k_l_lying ?a_l_taken ?l_l_taken ?c_l_taken ?k_l_taken ?a_l_steps ?l_l_steps ?c_l_steps ?k_l_steps ?a_l_hand ?l_l_hand ?c_l_hand ?k_l_hand ?a_l_walks ?l_l_walks ?c_l_walks ?k_l_walks ?a_l_is_state ?l_l_is_state ?c_l_is_state ?k_l_is_state ?a_l_none_shorter ?l_l_none_shorter ?c_l_none_shorter ?k_l_none_shorter ?a_l_shut ?l_l_shut ?c_l_shut ?k_l_shut ?a_l_goal ?l_l_goal ?c_l_goal ?k_l_goal ?a_law ?l_law ?c_law ?k_law ?q_MazeError ?x_MazeError ?kk_MazeError ?b_MazeError ?t_MazeError ?i_MazeError ?q_NoRoom ?x_NoRoom ?kk_NoRoom ?b_NoRoom ?t_NoRoom ?i_NoRoom ?s_NoRoom_NoRoom ?z_bool ?z_int ?z_isinstance ?z_len ?z_list ?z_min ?z_range ?z_set ?z_sorted ?z_tuple
    (case a_need_room => k_is)
    (case l_need_room => k_is)
    (case c_need_room => k_is)
    (case k_need_room => k_is)
    (case a_keys_in => k_is)
    (case l_keys_in => k_is)
    (case c_keys_in => k_is)
    (case k_keys_in => k_is)
    (case a_keys_among => k_is)
    (case l_keys_among => k_is)
    (case c_keys_among => k_is)
    (case k_keys_among => k_is)
    (case a_taken => k_is)
    (case l_taken => k_is)
    (case c_taken => k_is)
    (case k_taken => k_is)
    (case a_opens => k_is)
    (case l_opens => k_is)
    (case c_opens => k_is)
    (case k_opens => k_is)
    (case a_steps => k_is)
    (case l_steps => k_is)
    (case c_steps => k_is)
    (case k_steps => k_is)
    (case a_far_end => k_is)
    (case l_far_end => k_is)
    (case c_far_end => k_is)
    (case k_far_end => k_is)
    (case a_come => k_is)
    (case l_come => k_is)
    (case c_come => k_is)
    (case k_come => k_is)
    (case a_ways_out => k_is)
    (case l_ways_out => k_is)
    (case c_ways_out => k_is)
    (case k_ways_out => k_is)
    (case a_guide => k_is)
    (case l_guide => k_is)
    (case c_guide => k_is)
    (case k_guide => k_is)
    (case a_least_walk => k_is)
    (case l_least_walk => k_is)
    (case c_least_walk => k_is)
    (case k_least_walk => k_is)
    (case a_layers => k_is)
    (case l_layers => k_is)
    (case c_layers => k_is)
    (case k_layers => k_is)
    (case a_l_mix => k_is)
    (case l_l_mix => k_is)
    (case c_l_mix => k_is)
    (case k_l_mix => k_is)
    (case a_l_whole => k_is)
    (case l_l_whole => k_is)
    (case c_l_whole => k_is)
    (case k_l_whole => k_is)
    (case a_l_cell_at => k_is)
    (case l_l_cell_at => k_is)
    (case c_l_cell_at => k_is)
    (case k_l_cell_at => k_is)
    (case a_l_size => k_is)
    (case l_l_size => k_is)
    (case c_l_size => k_is)
    (case k_l_size => k_is)
    (case a_l_lock => k_is)
    (case l_l_lock => k_is)
    (case c_l_lock => k_is)
    (case k_l_lock => k_is)
    (case a_l_rank => k_is)
    (case l_l_rank => k_is)
    (case c_l_rank => k_is)
    (case k_l_rank => k_is)
    (case a_l_ranks => k_is)
    (case l_l_ranks => k_is)
    (case c_l_ranks => k_is)
    (case k_l_ranks => k_is)
    (case a_l_many => k_is)
    (case l_l_many => k_is)
    (case c_l_many => k_is)
    (case k_l_many => k_is)
    (case a_l_mixed => k_is)
    (case l_l_mixed => k_is)
    (case c_l_mixed => k_is)
    (case k_l_mixed => k_is)
    (case a_l_built => k_is)
    (case l_l_built => k_is)
    (case c_l_built => k_is)
    (case k_l_built => k_is)
    (case a_l_doors => k_is)
    (case l_l_doors => k_is)
    (case c_l_doors => k_is)
    (case k_l_doors => k_is)
    (case a_l_lying => k_is)
    (case l_l_lying => k_is)
    (case c_l_lying => k_is)
    (case k_l_lying => k_is)
    (case a_l_taken => k_is)
    (case l_l_taken => k_is)
    (case c_l_taken => k_is)
    (case k_l_taken => k_is)
    (case a_l_steps => k_is)
    (case l_l_steps => k_is)
    (case c_l_steps => k_is)
    (case k_l_steps => k_is)
    (case a_l_hand => k_is)
    (case l_l_hand => k_is)
    (case c_l_hand => k_is)
    (case k_l_hand => k_is)
    (case a_l_walks => k_is)
    (case l_l_walks => k_is)
    (case c_l_walks => k_is)
    (case k_l_walks => k_is)
    (case a_l_is_state => k_is)
    (case l_l_is_state => k_is)
    (case c_l_is_state => k_is)
    (case k_l_is_state => k_is)
    (case a_l_none_shorter => k_is)
    (case l_l_none_shorter => k_is)
    (case c_l_none_shorter => k_is)
    (case k_l_none_shorter => k_is)
    (case a_l_shut => k_is)
    (case l_l_shut => k_is)
    (case c_l_shut => k_is)
    (case k_l_shut => k_is)
    (case a_l_goal => k_is)
    (case l_l_goal => k_is)
    (case c_l_goal => k_is)
    (case k_l_goal => k_is)
    (case a_law => k_is)
    (case l_law => k_is)
    (case c_law => k_is)
    (case k_law => k_is)
    (case q_MazeError => k_is)
    (case x_MazeError => k_exc)
    (case kk_MazeError => k_is)
    (case b_MazeError => k_is)
    (case t_MazeError => k_is)
    (case i_MazeError => k_is)
    (case q_NoRoom => k_is)
    (case x_NoRoom => k_exc)
    (case kk_NoRoom => k_is)
    (case b_NoRoom => k_is)
    (case t_NoRoom => k_is)
    (case i_NoRoom => k_is)
    (case s_NoRoom_NoRoom => first | rfl | k_is)
    (case z_bool => k_is)
    (case z_int => k_is)
    (case z_isinstance => k_is)
    (case z_len => k_is)
    (case z_list => k_is)
    (case z_min => k_is)
    (case z_range => k_is)
    (case z_set => k_is)
    (case z_sorted => k_is)
    (case z_tuple => k_is)
