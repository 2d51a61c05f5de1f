/-
  Layer 3: the accesses of a trail, and its marks.
-/
import Derived.Test.YtngihgdcoeokhaaTrailAcc
namespace Go.Proofs.Ytngihgdcoeokhaa
open Go.ChangeShapes Go.WideShapes Go.ChangeAt Go.RowKit
set_option linter.unusedVariables false

section
variable {w w' w'' : World} {b g tb : Nat} {tv mv tv' mv' : Value} {T : Tr} {m m' : Mm}

theorem two_new (h : St w b g tb tv mv T m) {k : Nat} (hk : w.heap.size ≤ k) : ¬ Two b g k := by
  have h1 := h.mem.top.lt
  have h2 := h.mem.row.lt
  rintro (h3 | h3) <;> omega
theorem two_tb (h : St w b g tb tv mv T m) : ¬ Two b g tb := fun hn => hn.elim h.nb h.ng
theorem box_cell (w : World) (o : Obj) (p : Addr) (u : Value) (h : w.cell? p = some u) : (w.alloc o).cell? p = some u :=
  (((Below.refl w.heap.size w).alloc (Nat.le_refl _) o).cell (p := p) (World.block_lt_of_cell? w p h)).trans h
theorem box_new (w : World) (u : Value) (t : TypeId) (k : Nat) (hk : k = w.heap.size) : (w.alloc (.cells #[u] t)).cell? ⟨k, 0, none⟩ = some u := by subst hk; simp
theorem Goes.still (hb : Below w.heap.size w w') {v : Value} {T' : Tr} {e : Ending} (h : Goes w' b g tb tv mv v T' m' e w'') : Goes w b g tb tv mv v T' m' e w'' := by
  obtain ⟨he, tv', mv', h1, h2⟩ := h
  exact ⟨he, tv', mv', h1, (Moved.still hb ..).trans h2⟩

set_option maxHeartbeats 1000000 in
theorem trLoad (i : Int) (h : St w b g tb tv mv T m) (hf : Fine T) (hr : T.told.length + 1 ≤ 1000) (hu : m.cnt + 1 ≤ 4611686018427387904) :
    Calls Try.prog 22 #[.pointer (some ⟨tb, 0, none⟩), .int .i64 i] w (Goes w b g tb tv mv (.int .i64 (accV 0 i 0 T m)) (accT 0 i 0 T m) (accM 0 i 0 0 T m)) := by
  have hb : Below w.heap.size w ((w.alloc (.cells #[.pointer (some ⟨tb, 0, none⟩)] 31)).alloc (.cells #[.int .i64 i] 3)) := by
    refine ((Below.refl _ _).alloc (by first | exact Nat.le_refl _ | (simp only [World.size_alloc]; omega)) _).alloc (by first | exact Nat.le_refl _ | (simp only [World.size_alloc]; omega)) _
  have h' := h.still hb
  have k0 : ((w.alloc (.cells #[.pointer (some ⟨tb, 0, none⟩)] 31)).alloc (.cells #[.int .i64 i] 3)).cell? ⟨w.heap.size, 0, none⟩ = some (.pointer (some ⟨tb, 0, none⟩)) := box_cell _ (.cells #[.int .i64 i] 3) _ _ (box_new w (.pointer (some ⟨tb, 0, none⟩)) 31 (w.heap.size) rfl)
  have k1 : ((w.alloc (.cells #[.pointer (some ⟨tb, 0, none⟩)] 31)).alloc (.cells #[.int .i64 i] 3)).cell? ⟨w.heap.size + 1, 0, none⟩ = some (.int .i64 i) := box_new (w.alloc (.cells #[.pointer (some ⟨tb, 0, none⟩)] 31)) (.int .i64 i) 3 (w.heap.size + 1) (by simp only [World.size_alloc])
  have A : Hid (Calls Try.prog 31 #[.pointer (some ⟨tb, 0, none⟩), .func (.func 32) #[] #[.pointer (some ⟨w.heap.size, 0, none⟩), .pointer (some ⟨w.heap.size + 1, 0, none⟩)]] ((w.alloc (.cells #[.pointer (some ⟨tb, 0, none⟩)] 31)).alloc (.cells #[.int .i64 i] 3)) (Goes ((w.alloc (.cells #[.pointer (some ⟨tb, 0, none⟩)] 31)).alloc (.cells #[.int .i64 i] 3)) b g tb tv mv (.int .i64 (accV 0 i 0 T m)) (accT 0 i 0 T m) (accM 0 i 0 0 T m))) := by
    refine access_any _ _ (fun _ => rfl) 0 i 0 0 h' hf hr (fun hp n => ?_)
    exact load_does i k0 k1 h'.c0 (two_new h (by omega)) (two_new h (by omega)) (two_tb h') (h'.drewN n).mem hu
  have HB := Lib.hid hb
  clear h' h hf hr hu hb
  clear k1
  have hmf : ∀ (fn : Fn) (first cap : Array Value) (w : World), (Instr.makeFunc fn first cap).run Try.prog w = .ok (.func fn first cap) w := fun _ _ _ _ => rfl
  generalize accV 0 i 0 T m = x at *
  generalize accT 0 i 0 T m = T' at *
  generalize accM 0 i 0 0 T m = m' at *
  go_enter Try.func22, Try.ntmps22
  go_wp2_with (go_at_call 31; refine A.out.mono ?_; rintro e w1 ⟨rfl, tv1, mv1, s1, m1⟩)
  go_ret
  refine Goes.still HB.out ⟨rfl, tv1, mv1, s1, m1⟩

set_option maxHeartbeats 1000000 in
theorem trStore (i v : Int) (h : St w b g tb tv mv T m) (hf : Fine T) (hr : T.told.length + 1 ≤ 1000) (hu : m.cnt + 1 ≤ 4611686018427387904) :
    Calls Try.prog 23 #[.pointer (some ⟨tb, 0, none⟩), .int .i64 i, .int .i64 v] w (Goes w b g tb tv mv (.tuple #[]) (accT 1 i 0 T m) (accM 1 i v 0 T m)) := by
  have hb : Below w.heap.size w (((w.alloc (.cells #[.pointer (some ⟨tb, 0, none⟩)] 31)).alloc (.cells #[.int .i64 i] 3)).alloc (.cells #[.int .i64 v] 2)) := by
    refine (((Below.refl _ _).alloc (by first | exact Nat.le_refl _ | (simp only [World.size_alloc]; omega)) _).alloc (by first | exact Nat.le_refl _ | (simp only [World.size_alloc]; omega)) _).alloc (by first | exact Nat.le_refl _ | (simp only [World.size_alloc]; omega)) _
  have h' := h.still hb
  have k0 : (((w.alloc (.cells #[.pointer (some ⟨tb, 0, none⟩)] 31)).alloc (.cells #[.int .i64 i] 3)).alloc (.cells #[.int .i64 v] 2)).cell? ⟨w.heap.size, 0, none⟩ = some (.pointer (some ⟨tb, 0, none⟩)) := box_cell _ (.cells #[.int .i64 v] 2) _ _ (box_cell _ (.cells #[.int .i64 i] 3) _ _ (box_new w (.pointer (some ⟨tb, 0, none⟩)) 31 (w.heap.size) rfl))
  have k1 : (((w.alloc (.cells #[.pointer (some ⟨tb, 0, none⟩)] 31)).alloc (.cells #[.int .i64 i] 3)).alloc (.cells #[.int .i64 v] 2)).cell? ⟨w.heap.size + 1, 0, none⟩ = some (.int .i64 i) := box_cell _ (.cells #[.int .i64 v] 2) _ _ (box_new (w.alloc (.cells #[.pointer (some ⟨tb, 0, none⟩)] 31)) (.int .i64 i) 3 (w.heap.size + 1) (by simp only [World.size_alloc]))
  have k2 : (((w.alloc (.cells #[.pointer (some ⟨tb, 0, none⟩)] 31)).alloc (.cells #[.int .i64 i] 3)).alloc (.cells #[.int .i64 v] 2)).cell? ⟨w.heap.size + 2, 0, none⟩ = some (.int .i64 v) := box_new ((w.alloc (.cells #[.pointer (some ⟨tb, 0, none⟩)] 31)).alloc (.cells #[.int .i64 i] 3)) (.int .i64 v) 2 (w.heap.size + 2) (by simp only [World.size_alloc])
  have A : Hid (Calls Try.prog 31 #[.pointer (some ⟨tb, 0, none⟩), .func (.func 33) #[] #[.pointer (some ⟨w.heap.size, 0, none⟩), .pointer (some ⟨w.heap.size + 1, 0, none⟩), .pointer (some ⟨w.heap.size + 2, 0, none⟩)]] (((w.alloc (.cells #[.pointer (some ⟨tb, 0, none⟩)] 31)).alloc (.cells #[.int .i64 i] 3)).alloc (.cells #[.int .i64 v] 2)) (Goes (((w.alloc (.cells #[.pointer (some ⟨tb, 0, none⟩)] 31)).alloc (.cells #[.int .i64 i] 3)).alloc (.cells #[.int .i64 v] 2)) b g tb tv mv (.int .i64 (accV 1 i 0 T m)) (accT 1 i 0 T m) (accM 1 i v 0 T m))) := by
    refine access_any _ _ (fun _ => rfl) 1 i v 0 h' hf hr (fun hp n => ?_)
    exact store_does i v k0 k1 k2 h'.c0 (two_new h (by omega)) (two_new h (by omega)) (two_new h (by omega)) (two_tb h') (h'.drewN n).mem hu
  have HB := Lib.hid hb
  clear h' h hf hr hu hb
  clear k1
  clear k2
  have hmf : ∀ (fn : Fn) (first cap : Array Value) (w : World), (Instr.makeFunc fn first cap).run Try.prog w = .ok (.func fn first cap) w := fun _ _ _ _ => rfl
  generalize accV 1 i 0 T m = x at *
  generalize accT 1 i 0 T m = T' at *
  generalize accM 1 i v 0 T m = m' at *
  go_enter Try.func23, Try.ntmps23
  go_wp2_with (go_at_call 31; refine A.out.mono ?_; rintro e w1 ⟨rfl, tv1, mv1, s1, m1⟩)
  go_end0
  refine Goes.still HB.out ⟨rfl, tv1, mv1, s1, m1⟩

set_option maxHeartbeats 1000000 in
theorem trAdd (i d : Int) (h : St w b g tb tv mv T m) (hf : Fine T) (hr : T.told.length + 1 ≤ 1000) (hu : m.cnt + 1 ≤ 4611686018427387904) :
    Calls Try.prog 29 #[.pointer (some ⟨tb, 0, none⟩), .int .i64 i, .int .i64 d] w (Goes w b g tb tv mv (.int .i64 (accV 2 i 0 T m)) (accT 2 i 0 T m) (accM 2 i d 0 T m)) := by
  have hb : Below w.heap.size w (((w.alloc (.cells #[.pointer (some ⟨tb, 0, none⟩)] 31)).alloc (.cells #[.int .i64 i] 3)).alloc (.cells #[.int .i64 d] 2)) := by
    refine (((Below.refl _ _).alloc (by first | exact Nat.le_refl _ | (simp only [World.size_alloc]; omega)) _).alloc (by first | exact Nat.le_refl _ | (simp only [World.size_alloc]; omega)) _).alloc (by first | exact Nat.le_refl _ | (simp only [World.size_alloc]; omega)) _
  have h' := h.still hb
  have k0 : (((w.alloc (.cells #[.pointer (some ⟨tb, 0, none⟩)] 31)).alloc (.cells #[.int .i64 i] 3)).alloc (.cells #[.int .i64 d] 2)).cell? ⟨w.heap.size, 0, none⟩ = some (.pointer (some ⟨tb, 0, none⟩)) := box_cell _ (.cells #[.int .i64 d] 2) _ _ (box_cell _ (.cells #[.int .i64 i] 3) _ _ (box_new w (.pointer (some ⟨tb, 0, none⟩)) 31 (w.heap.size) rfl))
  have k1 : (((w.alloc (.cells #[.pointer (some ⟨tb, 0, none⟩)] 31)).alloc (.cells #[.int .i64 i] 3)).alloc (.cells #[.int .i64 d] 2)).cell? ⟨w.heap.size + 1, 0, none⟩ = some (.int .i64 i) := box_cell _ (.cells #[.int .i64 d] 2) _ _ (box_new (w.alloc (.cells #[.pointer (some ⟨tb, 0, none⟩)] 31)) (.int .i64 i) 3 (w.heap.size + 1) (by simp only [World.size_alloc]))
  have k2 : (((w.alloc (.cells #[.pointer (some ⟨tb, 0, none⟩)] 31)).alloc (.cells #[.int .i64 i] 3)).alloc (.cells #[.int .i64 d] 2)).cell? ⟨w.heap.size + 2, 0, none⟩ = some (.int .i64 d) := box_new ((w.alloc (.cells #[.pointer (some ⟨tb, 0, none⟩)] 31)).alloc (.cells #[.int .i64 i] 3)) (.int .i64 d) 2 (w.heap.size + 2) (by simp only [World.size_alloc])
  have A : Hid (Calls Try.prog 31 #[.pointer (some ⟨tb, 0, none⟩), .func (.func 34) #[] #[.pointer (some ⟨w.heap.size, 0, none⟩), .pointer (some ⟨w.heap.size + 1, 0, none⟩), .pointer (some ⟨w.heap.size + 2, 0, none⟩)]] (((w.alloc (.cells #[.pointer (some ⟨tb, 0, none⟩)] 31)).alloc (.cells #[.int .i64 i] 3)).alloc (.cells #[.int .i64 d] 2)) (Goes (((w.alloc (.cells #[.pointer (some ⟨tb, 0, none⟩)] 31)).alloc (.cells #[.int .i64 i] 3)).alloc (.cells #[.int .i64 d] 2)) b g tb tv mv (.int .i64 (accV 2 i 0 T m)) (accT 2 i 0 T m) (accM 2 i d 0 T m))) := by
    refine access_any _ _ (fun _ => rfl) 2 i d 0 h' hf hr (fun hp n => ?_)
    exact add_does i d k0 k1 k2 h'.c0 (two_new h (by omega)) (two_new h (by omega)) (two_new h (by omega)) (two_tb h') (h'.drewN n).mem hu
  have HB := Lib.hid hb
  clear h' h hf hr hu hb
  clear k1
  clear k2
  have hmf : ∀ (fn : Fn) (first cap : Array Value) (w : World), (Instr.makeFunc fn first cap).run Try.prog w = .ok (.func fn first cap) w := fun _ _ _ _ => rfl
  generalize accV 2 i 0 T m = x at *
  generalize accT 2 i 0 T m = T' at *
  generalize accM 2 i d 0 T m = m' at *
  go_enter Try.func29, Try.ntmps29
  go_wp2_with (go_at_call 31; refine A.out.mono ?_; rintro e w1 ⟨rfl, tv1, mv1, s1, m1⟩)
  go_ret
  refine Goes.still HB.out ⟨rfl, tv1, mv1, s1, m1⟩


set_option maxHeartbeats 1000000 in
theorem trWait (i v : Int) (h : St w b g tb tv mv T m) (hf : Fine T) (hr : T.told.length + 1 ≤ 1000) (hu : m.cnt + 1 ≤ 4611686018427387904) :
    Calls Try.prog 30 #[.pointer (some ⟨tb, 0, none⟩), .int .i64 i, .int .i64 v] w (Goes w b g tb tv mv (.tuple #[]) (accT 4 i v T m) (accM 4 i 0 v T m)) := by
  have hb : Below w.heap.size w (((w.alloc (.cells #[.pointer (some ⟨tb, 0, none⟩)] 31)).alloc (.cells #[.int .i64 i] 3)).alloc (.cells #[.int .i64 v] 2)) := by
    refine (((Below.refl _ _).alloc (by first | exact Nat.le_refl _ | (simp only [World.size_alloc]; omega)) _).alloc (by first | exact Nat.le_refl _ | (simp only [World.size_alloc]; omega)) _).alloc (by first | exact Nat.le_refl _ | (simp only [World.size_alloc]; omega)) _
  have h' := h.still hb
  have k0 : (((w.alloc (.cells #[.pointer (some ⟨tb, 0, none⟩)] 31)).alloc (.cells #[.int .i64 i] 3)).alloc (.cells #[.int .i64 v] 2)).cell? ⟨w.heap.size, 0, none⟩ = some (.pointer (some ⟨tb, 0, none⟩)) := box_cell _ (.cells #[.int .i64 v] 2) _ _ (box_cell _ (.cells #[.int .i64 i] 3) _ _ (box_new w (.pointer (some ⟨tb, 0, none⟩)) 31 (w.heap.size) rfl))
  have k1 : (((w.alloc (.cells #[.pointer (some ⟨tb, 0, none⟩)] 31)).alloc (.cells #[.int .i64 i] 3)).alloc (.cells #[.int .i64 v] 2)).cell? ⟨w.heap.size + 1, 0, none⟩ = some (.int .i64 i) := box_cell _ (.cells #[.int .i64 v] 2) _ _ (box_new (w.alloc (.cells #[.pointer (some ⟨tb, 0, none⟩)] 31)) (.int .i64 i) 3 (w.heap.size + 1) (by simp only [World.size_alloc]))
  have k2 : (((w.alloc (.cells #[.pointer (some ⟨tb, 0, none⟩)] 31)).alloc (.cells #[.int .i64 i] 3)).alloc (.cells #[.int .i64 v] 2)).cell? ⟨w.heap.size + 2, 0, none⟩ = some (.int .i64 v) := box_new ((w.alloc (.cells #[.pointer (some ⟨tb, 0, none⟩)] 31)).alloc (.cells #[.int .i64 i] 3)) (.int .i64 v) 2 (w.heap.size + 2) (by simp only [World.size_alloc])
  have A : Hid (Calls Try.prog 31 #[.pointer (some ⟨tb, 0, none⟩), .func (.func 36) #[] #[.pointer (some ⟨w.heap.size, 0, none⟩), .pointer (some ⟨w.heap.size + 1, 0, none⟩), .pointer (some ⟨w.heap.size + 2, 0, none⟩)]] (((w.alloc (.cells #[.pointer (some ⟨tb, 0, none⟩)] 31)).alloc (.cells #[.int .i64 i] 3)).alloc (.cells #[.int .i64 v] 2)) (Goes (((w.alloc (.cells #[.pointer (some ⟨tb, 0, none⟩)] 31)).alloc (.cells #[.int .i64 i] 3)).alloc (.cells #[.int .i64 v] 2)) b g tb tv mv (.int .i64 (accV 4 i v T m)) (accT 4 i v T m) (accM 4 i 0 v T m))) := by
    refine access_any _ _ (fun _ => rfl) 4 i 0 v h' hf hr (fun hp n => ?_)
    exact wait_does i v k0 k1 k2 h'.c0 (two_new h (by omega)) (two_new h (by omega)) (two_new h (by omega)) (two_tb h') (h'.drewN n).mem hu
  have HB := Lib.hid hb
  clear h' h hf hr hu hb
  clear k1
  clear k2
  have hmf : ∀ (fn : Fn) (first cap : Array Value) (w : World), (Instr.makeFunc fn first cap).run Try.prog w = .ok (.func fn first cap) w := fun _ _ _ _ => rfl
  generalize accV 4 i v T m = x at *
  generalize accT 4 i v T m = T' at *
  generalize accM 4 i 0 v T m = m' at *
  go_enter Try.func30, Try.ntmps30
  go_wp2_with (go_at_call 31; refine A.out.mono ?_; rintro e w1 ⟨rfl, tv1, mv1, s1, m1⟩)
  go_end0
  refine Goes.still HB.out ⟨rfl, tv1, mv1, s1, m1⟩

end
end Go.Proofs.Ytngihgdcoeokhaa
