/-
  Texts of our own, one behind the other (BdAns): what the laws' proofs rest on; each says at its head what it holds. No conditions.
-/
import Derived.Test.YtejkhnphplpkeaaPkVa
import Derived.Test.YtejkhnphplpkeaaPkVc
import Derived.Test.YtejkhnphplpkeaaPkZa
import Derived.Test.YtejkhnphplpkeaaPkWi
/-
  Layer 18, pure: what is built, in slots: what comes of finding an address, and of going through.
-/
namespace Go.Proofs.Ytejkhnphplpkeaa
open Go.RowKit
set_option linter.unusedVariables false

/-! Slots whose words begin at cell 0. -/
def fillZ (flat : List Int) (c : Nat) : List Int := flat.take c ++ List.replicate (flat.length - c) 0
theorem fillZ_len (flat : List Int) {c : Nat} (h : c ≤ flat.length) : (fillZ flat c).length = flat.length := by
  simp [fillZ]; omega
theorem nth_fillZ (flat : List Int) {c : Nat} (h : c ≤ flat.length) (i : Nat) : nth (fillZ flat c) i = if i < c then nth flat i else 0 := by
  unfold fillZ
  rw [nth_app]
  have e2 : (flat.take c).length = c := by simp; omega
  rw [e2]
  split
  · rename_i h2
    rw [nth_take, if_pos h2]
  · rw [nth_zeros]
theorem fillZ_step (flat : List Int) {c : Nat} (h : c < flat.length) : (fillZ flat c).set c (nth flat c) = fillZ flat (c + 1) := by
  apply ext_nth
  · rw [List.length_set, fillZ_len _ (by omega), fillZ_len _ (by omega)]
  · intro i hi
    rw [List.length_set] at hi
    rw [nth_set _ _ _ _ hi, nth_fillZ _ (by omega), nth_fillZ _ (by omega)]
    by_cases h1 : i = c
    · subst h1; rw [if_pos rfl, if_pos (by omega)]
    · rw [if_neg h1]
      by_cases h2 : i < c
      · rw [if_pos h2, if_pos (by omega)]
      · rw [if_neg h2, if_neg (by omega)]
theorem fillZ_zero (flat : List Int) : fillZ flat 0 = List.replicate flat.length 0 := by simp [fillZ]
theorem fillZ_all (flat : List Int) : fillZ flat flat.length = flat := by simp [fillZ]
def zM (ls : List (List Int)) (cnt : Int) : Mm := ⟨ls.flatten, cnt⟩
def wiZ (n : Nat) (st : Bool) : Wi := ⟨0, bornTo n n, st, false⟩
theorem wiZ_ok (n : Nat) (st : Bool) : WiOk (wiZ n st) 1 := ⟨bornTo_gens (Nat.le_refl _), by omega, by omega⟩
theorem wiZ_right {n : Nat} (st : Bool) (i : Nat) (h : i < n) : rightB (wiZ n st).l (65537 + (i : Int)) = true := wiOf_right st i h
theorem z_cells (n : Nat) (st : Bool) : (fun h => cellOf (wiZ n st).fst (wiZ n st).l.length h) = fun h => cellOf 0 n h := by
  have : (wiZ n st).l.length = n := bornTo_len (Nat.le_refl _)
  rw [this]
  rfl
theorem z_len {ls : List (List Int)} (h28 : All28 ls) (cnt : Int) : (zM ls cnt).cs.length = 28 * ls.length := flat_len h28
theorem z_tells {ls : List (List Int)} (h28 : All28 ls) (cnt : Int) : Tells2 (zM ls cnt) (fun h => cellOf 0 ls.length h) ls := by
  have hfl := flat_len h28
  refine ⟨fun h x e => ?_, fun h e => ?_⟩
  · obtain ⟨i, hi, hs, rfl⟩ := wordsAt_some e
    have hx := h28 i hi
    have hc : ∀ k : Nat, k < 28 → cellOf 0 ls.length h (k : Int) = 28 * (i : Int) + (k : Int) := fun k hk => by
      unfold cellOf
      rw [hs, if_pos (by omega)]
      omega
    have hin : ∀ k : Nat, k < 28 → inb (28 * (i : Int) + (k : Int)) (zM ls cnt) = true := fun k hk => by
      unfold inb
      rw [z_len h28]
      refine decide_eq_true ⟨by omega, ?_⟩
      have : 28 * (i : Int) + 28 ≤ 28 * (ls.length : Int) := by omega
      push_cast
      omega
    refine ⟨fun k hk => ?_, fun k hk => ?_, hx⟩
    · show rdv (zM ls cnt) (cellOf 0 ls.length h (k : Int)) = _
      rw [hc k hk]
      unfold rdv
      rw [hin k hk, if_pos rfl]
      show nth ls.flatten _ = _
      rw [show (28 * (i : Int) + (k : Int)).toNat = 28 * i + k by omega, nth_flat h28 i k hi hk]
    · show inb (cellOf 0 ls.length h (k : Int)) _ = true
      rw [hc k hk]; exact hin k hk
  · have hn := wordsAt_none e
    show rdv (zM ls cnt) (cellOf 0 ls.length h 0) = 0
    unfold cellOf
    rw [if_neg (by omega)]
    unfold rdv inb
    simp
theorem z_fits {ls : List (List Int)} (h28 : All28 ls) (hf : ∀ i, i < ls.length → Fits (ls.getD i [])) (cnt : Int) : Fits (zM ls cnt).cs := by
  have hfl := flat_len h28
  intro j hj
  show -9223372036854775808 ≤ nth ls.flatten j ∧ nth ls.flatten j ≤ _
  have hj : j < ls.flatten.length := hj
  have e : j = 28 * (j / 28) + j % 28 := by omega
  rw [e, nth_flat h28 _ _ (by omega) (by omega)]
  exact fits_nth (hf _ (by omega)) _
theorem words_at {ls : List (List Int)} {i : Nat} (hi : i < ls.length) (hl : ls.length ≤ 100) : wordsAt ls (65537 + (i : Int)) = some (ls.getD i []) := by
  unfold wordsAt
  rw [if_neg (by omega)]
  congr 2
  omega

/-! A tree's nodes. -/
section
variable {es : List En}
def hdZ (i : Nat) : Int := 65537 + (i : Int)
theorem hdZ_pos : ∀ i, 0 < hdZ i := fun i => by unfold hdZ; omega
/-- Their words. -/
def lsZ (es : List En) : List (List Int) := (treeN es hdZ).map packN
theorem lsZ_len (es : List En) : (lsZ es).length = cntN es.length := by unfold lsZ; rw [List.length_map, treeN_len]
theorem lsZ_at {i : Nat} {n : Nd} (h : (treeN es hdZ)[i]? = some n) : (lsZ es).getD i [] = packN n := by
  unfold lsZ
  rw [List.getD_eq_getElem?_getD, List.getElem?_map, h]
  rfl
theorem tree_form (hf : Formed18 es) : ∀ n ∈ treeN es hdZ, NdF n := by
  intro n hn
  have h1 := hf.2.1
  have h64 := hf.2.2
  unfold treeN at hn
  split at hn
  · next hk =>
    have e : n = leafN es := by simpa using hn
    subst e
    have := piece_formed (formed_chain hf) h1 h64 (i := 0) (by omega)
    rwa [piece_one hk] at this
  · rcases List.mem_append.1 hn with hn | hn
    · obtain ⟨i, hi, rfl⟩ := List.mem_map.1 hn
      exact piece_formed (formed_chain hf) h1 h64 (List.mem_range.1 hi)
    · have e : n = innerN (ups es hdZ) := by simpa using hn
      subst e
      exact root_formed (formed_chain hf) h1 h64 (fun i _ => hdZ_pos i)
/-- What an inner one has. -/
theorem tree_slots {n : Nd} (h1 : 1 ≤ es.length) (hn : n ∈ treeN es hdZ) (hi : n.inner = true) : ∀ s ∈ n.slots, ∃ i, i < cntN es.length ∧ s = 65537 + (i : Int) := by
  unfold treeN at hn
  split at hn
  · have e : n = leafN es := by simpa using hn
    subst e
    cases hi
  · next hk =>
    rcases List.mem_append.1 hn with hn | hn
    · obtain ⟨i, _, rfl⟩ := List.mem_map.1 hn
      cases hi
    · have e : n = innerN (ups es hdZ) := by simpa using hn
      subst e
      intro s hs
      have hs : s ∈ (ups es hdZ).map Up.h := hs
      obtain ⟨u, hu, rfl⟩ := List.mem_map.1 hs
      obtain ⟨i, hi, rfl⟩ := List.mem_map.1 hu
      refine ⟨i, ?_, rfl⟩
      have := List.mem_range.1 hi
      unfold cntN
      rw [if_neg hk]
      omega
theorem tree_fits (hf : Formed18 es) (hE : ∀ i, i < es.length → (enAt es i).h ≤ 9223372036854775807) : ∀ n ∈ treeN es hdZ, Fits n.slots := by
  have h1 := hf.2.1
  have h64 := hf.2.2
  have key : ∀ l : List En, (∀ e ∈ l, 0 ≤ e.h ∧ e.h ≤ 9223372036854775807) → Fits (leafN l).slots := fun l hl i hi => by
    have hi : i < l.length := by simpa [leafN] using hi
    have e : nth (leafN l).slots i = (enAt l i).h := nth_mapE _ hi
    have hm : enAt l i ∈ l := by
      unfold enAt
      rw [List.getD_eq_getElem?_getD, List.getElem?_eq_getElem hi]
      exact List.getElem_mem hi
    have := hl _ hm
    rw [e]
    omega
  have hall : ∀ e ∈ es, 0 ≤ e.h ∧ e.h ≤ 9223372036854775807 := fun e he => by
    obtain ⟨i, hi, rfl⟩ := List.getElem_of_mem he
    have e1 : es[i] = enAt es i := by
      unfold enAt
      rw [List.getD_eq_getElem?_getD, List.getElem?_eq_getElem hi]
      rfl
    rw [e1]
    have := hf.1 i hi
    unfold EnOk at this
    exact ⟨this.1, hE i hi⟩
  intro n hn
  unfold treeN at hn
  split at hn
  · have e : n = leafN es := by simpa using hn
    subst e
    exact key _ hall
  · rcases List.mem_append.1 hn with hn | hn
    · obtain ⟨i, _, rfl⟩ := List.mem_map.1 hn
      exact key _ (fun e he => hall e (List.mem_of_mem_drop (List.mem_of_mem_take he)))
    · have e : n = innerN (ups es hdZ) := by simpa using hn
      subst e
      intro i hi
      have hi : i < pcs es.length := by simpa [innerN, ups] using hi
      have e : nth (innerN (ups es hdZ)).slots i = hdZ i := nth_ups Up.h hi
      have := pcs_few h1 h64
      rw [e]
      unfold hdZ
      omega
theorem lsZ_28 (hf : Formed18 es) : All28 (lsZ es) := by
  intro i hi
  unfold lsZ at hi ⊢
  rw [List.length_map] at hi
  rw [List.getD_eq_getElem?_getD, List.getElem?_map, List.getElem?_eq_getElem hi]
  exact pack_len (tree_form hf _ (List.getElem_mem hi)).cnt
theorem lsZ_fits (hf : Formed18 es) (hE : ∀ i, i < es.length → (enAt es i).h ≤ 9223372036854775807) : ∀ i, i < (lsZ es).length → Fits ((lsZ es).getD i []) := by
  intro i hi
  unfold lsZ at hi ⊢
  rw [List.length_map] at hi
  rw [List.getD_eq_getElem?_getD, List.getElem?_map, List.getElem?_eq_getElem hi]
  have hm := List.getElem_mem hi
  exact fits_pack (tree_form hf _ hm) (tree_fits hf hE _ hm)
theorem lsZ_small (hf : Formed18 es) : 1 ≤ (lsZ es).length ∧ (lsZ es).length ≤ 9 := by
  rw [lsZ_len]
  exact cnt_few hf.2.1 hf.2.2
theorem word_leaf (hf : Formed18 es) (hk : pcs es.length ≠ 1) {i : Nat} (hi : i < pcs es.length) : wordsAt (lsZ es) (hdZ i) = some (packN (leafN (piece es i))) := by
  have hl := lsZ_small hf
  have hn : (lsZ es).length = pcs es.length + 1 := by rw [lsZ_len]; unfold cntN; rw [if_neg hk]
  rw [show hdZ i = 65537 + (i : Int) from rfl, words_at (by omega) (by omega), lsZ_at (n := leafN (piece es i))]
  unfold treeN
  rw [if_neg hk, List.getElem?_append_left (by simpa using hi), List.getElem?_map, List.getElem?_range hi]
  rfl
theorem word_root (hf : Formed18 es) (hk : pcs es.length ≠ 1) : wordsAt (lsZ es) (hdZ (pcs es.length)) = some (packN (innerN (ups es hdZ))) := by
  have hl := lsZ_small hf
  have hn : (lsZ es).length = pcs es.length + 1 := by rw [lsZ_len]; unfold cntN; rw [if_neg hk]
  rw [show hdZ (pcs es.length) = 65537 + ((pcs es.length : Nat) : Int) from rfl, words_at (by omega) (by omega), lsZ_at (n := innerN (ups es hdZ))]
  unfold treeN
  rw [if_neg hk, List.getElem?_append_right (by simp)]
  simp
theorem word_one (hf : Formed18 es) (hk : pcs es.length = 1) : wordsAt (lsZ es) (hdZ 0) = some (packN (leafN es)) := by
  have hl := lsZ_small hf
  rw [show hdZ 0 = 65537 + ((0 : Nat) : Int) from rfl, words_at (by omega) (by omega), lsZ_at (n := leafN es)]
  unfold treeN
  rw [if_pos hk]
  rfl
/-- The root's handle. -/
def rootZ (es : List En) : Int := hdZ (cntN es.length - 1)
theorem rootZ_one (hk : pcs es.length = 1) : rootZ es = hdZ 0 := by unfold rootZ cntN; rw [if_pos hk]
theorem rootZ_two (hk : pcs es.length ≠ 1) : rootZ es = hdZ (pcs es.length) := by unfold rootZ cntN; rw [if_neg hk]; rfl
theorem z_find (hf : Formed18 es) {addr : Int} {g : Nat} (hg : g < es.length) (a0 : (enAt es g).lo ≤ addr) (a1 : addr < (enAt es g).hi) : (findW (lsZ es) addr 8 (rootZ es)).1 = ((enAt es g).h, true) := by
  by_cases hk : pcs es.length = 1
  · rw [rootZ_one hk]
    exact find_leaf (formed_chain hf) hf.2.1 ((pcs_one hf.2.1).1 hk) (word_one hf hk) hg a0 a1 7
  · rw [rootZ_two hk]
    exact find_two (formed_chain hf) hf.2.1 hf.2.2 (fun i _ => hdZ_pos i) (fun i hi => word_leaf hf hk hi) (word_root hf hk) hg a0 a1 6
theorem z_thru (hf : Formed18 es) : ∃ ns c, thruW (lsZ es) 8 (rootZ es) ⟨[], []⟩ = (some ⟨es, ns⟩, c) ∧ c ≤ 300 := by
  have h1 := hf.2.1
  have h64 := hf.2.2
  have hK := pcs_few h1 h64
  by_cases hk : pcs es.length = 1
  · rw [rootZ_one hk]
    have h8 := (pcs_one h1).1 hk
    exact ⟨_, _, thru_leafAt (formed_chain hf) h1 h8 (word_one hf hk) 7 ⟨[], []⟩ (by simp), by omega⟩
  · rw [rootZ_two hk]
    exact ⟨_, _, thru_two (formed_chain hf) h1 h64 (fun i _ => hdZ_pos i) (fun i hi => word_leaf hf hk hi) (word_root hf hk), by omega⟩
/-- Each handle that is touched is a node's. -/
theorem z_touch (hf : Formed18 es) (addr cnt : Int) : ∀ q ∈ (bkRs (fun h => cellOf 0 (lsZ es).length h) (rootZ es) addr).reads (zM (lsZ es) cnt), ∃ i, i < (lsZ es).length ∧ q.2 = 65537 + (i : Int) := by
  have M := z_tells (lsZ_28 hf) cnt
  have h0 : ∃ i, i < (lsZ es).length ∧ rootZ es = 65537 + (i : Int) := ⟨cntN es.length - 1, by have := lsZ_small hf; rw [lsZ_len] at this ⊢; omega, rfl⟩
  have node : ∀ h x, wordsAt (lsZ es) h = some x → ∃ n, n ∈ treeN es hdZ ∧ x = packN n := fun h x e => by
    obtain ⟨i, hi, _, rfl⟩ := wordsAt_some e
    have hi' : i < (treeN es hdZ).length := by rw [lsZ_len] at hi; rw [treeN_len]; exact hi
    exact ⟨_, List.getElem_mem hi', lsZ_at (List.getElem?_eq_getElem hi')⟩
  have slots : ∀ n, n ∈ treeN es hdZ → n.inner = true → ∀ s ∈ n.slots, ∃ i, i < (lsZ es).length ∧ s = 65537 + (i : Int) := fun n hn hi s hs => by
    rw [lsZ_len]
    exact tree_slots hf.2.1 hn hi s hs
  have f := find_h M (fun h => ∃ i, i < (lsZ es).length ∧ h = 65537 + (i : Int)) addr (fun h x _ hw h1 h2 => by
    obtain ⟨n, hn, rfl⟩ := node h x hw
    have nf := tree_form hf n hn
    obtain ⟨k1, k2⟩ := look_pack nf.cnt addr
    have ex : ∃ i, i < n.ends.length ∧ (∀ j, j < i → nth n.ends j ≤ addr) ∧ addr < nth n.ends i := by
      apply Classical.byContradiction
      intro hne
      have all : ∀ j, j < n.ends.length → nth n.ends j ≤ addr := by
        intro j
        induction j using Nat.strongRecOn with
        | ind j ih =>
          intro hj
          apply Classical.byContradiction
          intro hlt
          exact hne ⟨j, hj, fun i hi => ih i hi (by omega), by omega⟩
      rw [k2 all] at h1
      cases h1
    obtain ⟨i, hi, a, b⟩ := ex
    have e := k1 i hi a b
    rw [e] at h2 ⊢
    refine slots n hn h2 _ ?_
    have hsl : i < n.slots.length := by rw [nf.cnt.sl]; exact hi
    unfold nth
    rw [List.getD_eq_getElem?_getD, List.getElem?_eq_getElem hsl]
    exact List.getElem_mem hsl) 8 (rootZ es) h0
  have t := thru_h M (fun h => ∃ i, i < (lsZ es).length ∧ h = 65537 + (i : Int)) (fun h x n _ hw hn hi => by
    obtain ⟨n', hn', rfl⟩ := node h x hw
    rw [nodeW_pack (tree_form hf n' hn')] at hn
    injection hn with hn
    subst hn
    exact slots n' hn' hi) 8 (rootZ es) ⟨[], []⟩ h0
  intro q hq
  unfold bkRs bkP at hq
  rw [Sk.reads_bind, Sk.reads_bind, Sk.reads_bind] at hq
  simp only [Sk.reads, List.append_nil] at hq
  rcases List.mem_append.1 hq with hq | hq
  · exact f q hq
  · exact t q hq
theorem z_ans (hf : Formed18 es) {addr : Int} {g : Nat} (hg : g < es.length) (a0 : (enAt es g).lo ≤ addr) (a1 : addr < (enAt es g).hi) (cnt : Int) : (bkRs (fun h => cellOf 0 (lsZ es).length h) (rootZ es) addr).ans (zM (lsZ es) cnt) = some ⟨(enAt es g).h, es⟩ ∧ 0 < ((bkRs (fun h => cellOf 0 (lsZ es).length h) (rootZ es) addr).reads (zM (lsZ es) cnt)).length ∧ ((bkRs (fun h => cellOf 0 (lsZ es).length h) (rootZ es) addr).reads (zM (lsZ es) cnt)).length ≤ 380 := by
  have M := z_tells (lsZ_28 hf) cnt
  obtain ⟨f1, f2⟩ := find_ans M addr 8 (rootZ es)
  obtain ⟨t1, t2⟩ := thru_ans M 8 (rootZ es) ⟨[], []⟩
  obtain ⟨ns, c, e, hc⟩ := z_thru hf
  rw [z_find hf hg a0 a1] at f1
  rw [e] at t1 t2
  have m1 : 0 < (findW (lsZ es) addr 8 (rootZ es)).2 := findW_some (lsZ es) addr 7 (rootZ es)
  have m2 := findW_most (lsZ es) addr 8 (rootZ es)
  unfold bkRs bkP
  rw [Sk.ans_bind, Sk.ans_bind, Sk.ans_bind, Sk.reads_bind, Sk.reads_bind, Sk.reads_bind]
  simp only [Sk.reads, Sk.ans, List.append_nil, List.length_append]
  rw [f1, t1]
  refine ⟨rfl, ?_, ?_⟩
  · omega
  · simp only at t2
    omega
/-- Some entry has the address. -/
theorem chain_has (h : Chain es) (h1 : 1 ≤ es.length) {addr : Int} (a0 : (enAt es 0).lo ≤ addr) (a1 : addr < (enAt es (es.length - 1)).hi) : ∃ g, g < es.length ∧ (enAt es g).lo ≤ addr ∧ addr < (enAt es g).hi := by
  have key : ∀ k, k < es.length → addr < (enAt es k).hi → ∃ g, g < es.length ∧ (enAt es g).lo ≤ addr ∧ addr < (enAt es g).hi := by
    intro k
    induction k with
    | zero => intro hk hlt; exact ⟨0, hk, a0, hlt⟩
    | succ k ih =>
      intro hk hlt
      by_cases hlo : (enAt es (k + 1)).lo ≤ addr
      · exact ⟨k + 1, hk, hlo, hlt⟩
      · have := h.next k hk
        exact ih (by omega) (by omega)
  exact key _ (by omega) a1
end
end Go.Proofs.Ytejkhnphplpkeaa
