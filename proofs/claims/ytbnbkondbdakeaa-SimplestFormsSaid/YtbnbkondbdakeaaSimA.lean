/- The program's package simplest: small parts. Conditions: the numbers fit. -/
import Derived.Test.YtbnbkondbdakeaaFixR
import Derived.Test.YtbnbkondbdakeaaDeclW
import Derived.Test.YtbnbkondbdakeaaBest
namespace Go.Proofs.Ytbnbkondbdakeaa
set_option linter.unusedVariables false
set_option linter.unusedSimpArgs false
open Go Go.RowKit Go.Sort
attribute [local go_sem] qUpon putAll slotV
set_option maxRecDepth 100000 in
set_option maxHeartbeats 8000000 in
theorem s_integer {z : Int} (hz : F256 z) (w : World) : Calls Try.prog 121 #[.agg #[.bool (sg z), .int .u64 (l0 z : Int), .int .u64 (l1 z : Int), .int .u64 (l2 z : Int), .int .u64 (l3 z : Int)]] w (Ret (.agg #[.bool (sg z), .int .u64 (l0 z : Int), .int .u64 (l1 z : Int), .int .u64 (l2 z : Int), .int .u64 (l3 z : Int), .bool (sg 1), .int .u64 (l0 1 : Int), .int .u64 (l1 1 : Int), .int .u64 (l2 1 : Int), .int .u64 (l3 1 : Int)]) w) := by
  have kO : Hid (∀ w, Calls Try.prog 122 #[.int .i64 1] w (Ret (.agg #[.bool (sg 1), .int .u64 (l0 1 : Int), .int .u64 (l1 1 : Int), .int .u64 (l2 1 : Int), .int .u64 (l3 1 : Int)]) w)) := fun w => c_ofi (by omega) (by omega) w
  obtain ⟨W0, hW0⟩ : ∃ W0, W0 = ((w.alloc (.cells #[.bool (sg z), .int .u64 (l0 z : Int), .int .u64 (l1 z : Int), .int .u64 (l2 z : Int), .int .u64 (l3 z : Int)] 25)).alloc (.cells #[.bool false, .int .u64 0, .int .u64 0, .int .u64 0, .int .u64 0, .bool false, .int .u64 0, .int .u64 0, .int .u64 0, .int .u64 0] 35)) := ⟨_, rfl⟩
  have H2 := two_blocks w (.cells #[.bool (sg z), .int .u64 (l0 z : Int), .int .u64 (l1 z : Int), .int .u64 (l2 z : Int), .int .u64 (l3 z : Int)] 25) (.cells #[.bool false, .int .u64 0, .int .u64 0, .int .u64 0, .int .u64 0, .bool false, .int .u64 0, .int .u64 0, .int .u64 0, .int .u64 0] 35)
  have EE0 : Ext w W0 := by rw [hW0]; exact ((ext_alloc _ _).trans (ext_alloc _ _))
  rw [← hW0] at H2
  have EE := hide EE0
  have HW := hide hW0
  obtain ⟨P1, P2⟩ : Box W0 (w.heap.size) (sg z) (l0 z) (l1 z) (l2 z) (l3 z) ∧ Box10 W0 ((w.heap.size + 1)) false 0 0 0 0 false 0 0 0 0 := H2
  clear hW0 EE0
  go_enter Try.func121, Try.ntmps121
  go_upto_region 1 with fail
  rw [← HW.out]
  clear HW
  have hg0 : w.heap.size ≤ w.heap.size := Nat.le_refl _
  obtain ⟨g0, hg⟩ : ∃ g, w.heap.size = g := ⟨_, rfl⟩
  rw [hg] at P1 P2 ⊢
  replace hg0 : w.heap.size ≤ g0 := Nat.le_of_eq hg
  clear hg
  have lbP1 := P1.lt
  have lbP2 := P2.lt
  have ltW0 : ∀ c, Tag.so c ∈ [.q, .q, .q, .so 0] → (fun _ => g0 + 1) c < W0.heap.size := by intro c hc; simp at hc; (try subst hc); (try simp only); omega
  refine wp_decl [.q, .q, .q, .so 0] [.agg #[.bool (sg z), .int .u64 (l0 z : Int), .int .u64 (l1 z : Int), .int .u64 (l2 z : Int), .int .u64 (l3 z : Int)], .agg #[.bool (sg 1), .int .u64 (l0 1 : Int), .int .u64 (l1 1 : Int), .int .u64 (l2 1 : Int), .int .u64 (l3 1 : Int)], .agg #[.bool (sg z), .int .u64 (l0 z : Int), .int .u64 (l1 z : Int), .int .u64 (l2 z : Int), .int .u64 (l3 z : Int), .bool (sg 1), .int .u64 (l0 1 : Int), .int .u64 (l1 1 : Int), .int .u64 (l2 1 : Int), .int .u64 (l3 1 : Int)], undef] (fun _ => (.cells #[.bool false, .int .u64 0, .int .u64 0, .int .u64 0, .int .u64 0] 25 (0, 0))) (fun _ => (.cells #[.bool (sg z), .int .u64 (l0 z : Int), .int .u64 (l1 z : Int), .int .u64 (l2 z : Int), .int .u64 (l3 z : Int), .bool (sg 1), .int .u64 (l0 1 : Int), .int .u64 (l1 1 : Int), .int .u64 (l2 1 : Int), .int .u64 (l3 1 : Int)] 35 (0, 0))) (fun _ => g0 + 1) (by kernel_rfl) (by kernel_rfl) (by kernel_rfl) rfl rfl ltW0 (by intro c c' h1 h2 _; simp at h1 h2; omega) ?_ ?_
  · refine ⟨?_, ?_, ?_, ?_, trivial⟩
    · refine op_q ?uvn2 ?h1n2 ?h2n2 ?h3n2
      case h1n2 => exact rfl
      case uvn2 => exact (.agg #[.bool (sg z), .int .u64 (l0 z : Int), .int .u64 (l1 z : Int), .int .u64 (l2 z : Int), .int .u64 (l3 z : Int)])
      case h2n2 => exact rfl
      intro w' hw'
      have P1 := P1.same hw' (by intro c hc; simp at hc; (try subst hc); (try simp only); omega)
      have xP1 := five_cells P1
      go_simp
    · refine op_q ?uvn3 ?h1n3 ?h2n3 ?h3n3
      case h1n3 => exact rfl
      case uvn3 => exact (.agg #[.bool (sg 1), .int .u64 (l0 1 : Int), .int .u64 (l1 1 : Int), .int .u64 (l2 1 : Int), .int .u64 (l3 1 : Int)])
      case h2n3 => exact rfl
      intro w' hw'
      go_simp
      exact kO.out w'
    · refine op_q ?uvn4 ?h1n4 ?h2n4 ?h3n4
      case h1n4 => exact rfl
      case uvn4 => exact (.agg #[.bool (sg z), .int .u64 (l0 z : Int), .int .u64 (l1 z : Int), .int .u64 (l2 z : Int), .int .u64 (l3 z : Int), .bool (sg 1), .int .u64 (l0 1 : Int), .int .u64 (l1 1 : Int), .int .u64 (l2 1 : Int), .int .u64 (l3 1 : Int)])
      case h2n4 => exact rfl
      intro w' hw'
      go_simp
    · refine op_so (c := 0) (T := ?uTn5) (p := ?upn5) (x := ?uxn5) ?ugn5 ?ufn5 ?uvn5 ?h1n5 ?h2n5 ?h3n5 ?h4n5 ?h5n5 ?h6n5 ?h7n5
      case h1n5 => exact rfl
      case h2n5 => exact rfl
      case ufn5 => exact (.cells #[.bool (sg z), .int .u64 (l0 z : Int), .int .u64 (l1 z : Int), .int .u64 (l2 z : Int), .int .u64 (l3 z : Int), .bool (sg 1), .int .u64 (l0 1 : Int), .int .u64 (l1 1 : Int), .int .u64 (l2 1 : Int), .int .u64 (l3 1 : Int)] 35 (0, 0))
      case ugn5 => exact g0 + 1
      case uvn5 => exact (.agg #[.bool (sg z), .int .u64 (l0 z : Int), .int .u64 (l1 z : Int), .int .u64 (l2 z : Int), .int .u64 (l3 z : Int), .bool (sg 1), .int .u64 (l0 1 : Int), .int .u64 (l1 1 : Int), .int .u64 (l2 1 : Int), .int .u64 (l3 1 : Int)])
      case h3n5 => exact rfl
      case h4n5 => exact rfl
      case h5n5 => go_simp; rfl
      case h6n5 => go_simp
      intro ρ w' hp hx hz
      exact store_ratio rfl hp hx (hz.trans P2)
  · intro G W1 hI
    have hS := hI.same
    have P1 := P1.same hS (by intro c hc; simp at hc; (try subst hc); (try simp only); omega)
    have hso : ∀ c, Tag.so c ∈ [.q, .q, .q, .so 0] → w.heap.size ≤ (fun _ => g0 + 1) c := by intro c hc; simp at hc; (try subst hc); (try simp only); omega
    have EE := hide (hS.ext' EE.out hso)
    have P2 : Box10 W1 (g0 + 1) (sg z) (l0 z) (l1 z) (l2 z) (l3 z) (sg 1) (l0 1) (l1 1) (l2 1) (l3 1) := hI.olds' 3 (List.mem_range.2 (show 3 < 4 by decide)) 0 rfl
    clear hI hS
    simp only [putAll, slotV, ptrTo, Nat.zero_add, Nat.reduceAdd]
    go_wp2_with fail
    obtain ⟨xP20, xP21, xP22, xP23, xP24, xP25, xP26, xP27, xP28, xP29, xP2f0, xP2f1, xP2f2, xP2f3, xP2f4, xP2f5, xP2f6, xP2f7, xP2f8, xP2f9⟩ := ten_cells P2
    exact bodyPost_ret (v := .agg #[.bool (sg z), .int .u64 (l0 z : Int), .int .u64 (l1 z : Int), .int .u64 (l2 z : Int), .int .u64 (l3 z : Int), .bool (sg 1), .int .u64 (l0 1 : Int), .int .u64 (l1 1 : Int), .int .u64 (l2 1 : Int), .int .u64 (l3 1 : Int)]) (by simp [results, Try.results121, go_sem, xP20, xP21, xP22, xP23, xP24, xP25, xP26, xP27, xP28, xP29]) rfl ⟨rfl, EE.out⟩
set_option maxRecDepth 100000 in
set_option maxHeartbeats 8000000 in
theorem s_negative {n d m : Int} (hn : F256 n) (e : -n = m) (w : World) : Calls Try.prog 77 #[.agg #[.bool (sg n), .int .u64 (l0 n : Int), .int .u64 (l1 n : Int), .int .u64 (l2 n : Int), .int .u64 (l3 n : Int), .bool (sg d), .int .u64 (l0 d : Int), .int .u64 (l1 d : Int), .int .u64 (l2 d : Int), .int .u64 (l3 d : Int)]] w (Ret (.agg #[.bool (sg m), .int .u64 (l0 m : Int), .int .u64 (l1 m : Int), .int .u64 (l2 m : Int), .int .u64 (l3 m : Int), .bool (sg d), .int .u64 (l0 d : Int), .int .u64 (l1 d : Int), .int .u64 (l2 d : Int), .int .u64 (l3 d : Int)]) w) := by
  have kN : Hid (∀ w, Calls Try.prog 63 #[.agg #[.bool (sg n), .int .u64 (l0 n : Int), .int .u64 (l1 n : Int), .int .u64 (l2 n : Int), .int .u64 (l3 n : Int)]] w (Ret (.agg #[.bool (sg m), .int .u64 (l0 m : Int), .int .u64 (l1 m : Int), .int .u64 (l2 m : Int), .int .u64 (l3 m : Int)]) w)) := fun w => c_neg hn e w
  clear e
  obtain ⟨W0, hW0⟩ : ∃ W0, W0 = ((w.alloc (.cells #[.bool (sg n), .int .u64 (l0 n : Int), .int .u64 (l1 n : Int), .int .u64 (l2 n : Int), .int .u64 (l3 n : Int), .bool (sg d), .int .u64 (l0 d : Int), .int .u64 (l1 d : Int), .int .u64 (l2 d : Int), .int .u64 (l3 d : Int)] 35)).alloc (.cells #[.bool false, .int .u64 0, .int .u64 0, .int .u64 0, .int .u64 0, .bool false, .int .u64 0, .int .u64 0, .int .u64 0, .int .u64 0] 35)) := ⟨_, rfl⟩
  have H2 := two_blocks w (.cells #[.bool (sg n), .int .u64 (l0 n : Int), .int .u64 (l1 n : Int), .int .u64 (l2 n : Int), .int .u64 (l3 n : Int), .bool (sg d), .int .u64 (l0 d : Int), .int .u64 (l1 d : Int), .int .u64 (l2 d : Int), .int .u64 (l3 d : Int)] 35) (.cells #[.bool false, .int .u64 0, .int .u64 0, .int .u64 0, .int .u64 0, .bool false, .int .u64 0, .int .u64 0, .int .u64 0, .int .u64 0] 35)
  have EE0 : Ext w W0 := by rw [hW0]; exact ((ext_alloc _ _).trans (ext_alloc _ _))
  rw [← hW0] at H2
  have EE := hide EE0
  have HW := hide hW0
  obtain ⟨P1, P2⟩ : Box10 W0 (w.heap.size) (sg n) (l0 n) (l1 n) (l2 n) (l3 n) (sg d) (l0 d) (l1 d) (l2 d) (l3 d) ∧ Box10 W0 ((w.heap.size + 1)) false 0 0 0 0 false 0 0 0 0 := H2
  clear hW0 EE0
  go_enter Try.func77, Try.ntmps77
  go_upto_region 1 with fail
  rw [← HW.out]
  clear HW
  have hg0 : w.heap.size ≤ w.heap.size := Nat.le_refl _
  obtain ⟨g0, hg⟩ : ∃ g, w.heap.size = g := ⟨_, rfl⟩
  rw [hg] at P1 P2 ⊢
  replace hg0 : w.heap.size ≤ g0 := Nat.le_of_eq hg
  clear hg
  have lbP1 := P1.lt
  have lbP2 := P2.lt
  have ltW0 : ∀ c, Tag.so c ∈ [.q, .q, .q, .q, .q, .q, .so 0] → (fun _ => g0 + 1) c < W0.heap.size := by intro c hc; simp at hc; (try subst hc); (try simp only); omega
  refine wp_decl [.q, .q, .q, .q, .q, .q, .so 0] [.pointer (some ⟨g0, 0, none⟩), .agg #[.bool (sg n), .int .u64 (l0 n : Int), .int .u64 (l1 n : Int), .int .u64 (l2 n : Int), .int .u64 (l3 n : Int)], .agg #[.bool (sg m), .int .u64 (l0 m : Int), .int .u64 (l1 m : Int), .int .u64 (l2 m : Int), .int .u64 (l3 m : Int)], .pointer (some ⟨g0, 5, none⟩), .agg #[.bool (sg d), .int .u64 (l0 d : Int), .int .u64 (l1 d : Int), .int .u64 (l2 d : Int), .int .u64 (l3 d : Int)], .agg #[.bool (sg m), .int .u64 (l0 m : Int), .int .u64 (l1 m : Int), .int .u64 (l2 m : Int), .int .u64 (l3 m : Int), .bool (sg d), .int .u64 (l0 d : Int), .int .u64 (l1 d : Int), .int .u64 (l2 d : Int), .int .u64 (l3 d : Int)], undef] (fun _ => (.cells #[.bool false, .int .u64 0, .int .u64 0, .int .u64 0, .int .u64 0] 25 (0, 0))) (fun _ => (.cells #[.bool (sg m), .int .u64 (l0 m : Int), .int .u64 (l1 m : Int), .int .u64 (l2 m : Int), .int .u64 (l3 m : Int), .bool (sg d), .int .u64 (l0 d : Int), .int .u64 (l1 d : Int), .int .u64 (l2 d : Int), .int .u64 (l3 d : Int)] 35 (0, 0))) (fun _ => g0 + 1) (by kernel_rfl) (by kernel_rfl) (by kernel_rfl) rfl rfl ltW0 (by intro c c' h1 h2 _; simp at h1 h2; omega) ?_ ?_
  · refine ⟨?_, ?_, ?_, ?_, ?_, ?_, ?_, trivial⟩
    · refine op_q ?uvn7 ?h1n7 ?h2n7 ?h3n7
      case h1n7 => exact rfl
      case uvn7 => exact (.pointer (some ⟨g0, 0, none⟩))
      case h2n7 => exact rfl
      intro w' hw'
      go_simp
    · refine op_q ?uvn8 ?h1n8 ?h2n8 ?h3n8
      case h1n8 => exact rfl
      case uvn8 => exact (.agg #[.bool (sg n), .int .u64 (l0 n : Int), .int .u64 (l1 n : Int), .int .u64 (l2 n : Int), .int .u64 (l3 n : Int)])
      case h2n8 => exact rfl
      intro w' hw'
      have P1 := P1.same hw' (by intro c hc; simp at hc; (try subst hc); (try simp only); omega)
      have xP1 := ten_cells P1
      go_simp
    · refine op_q ?uvn9 ?h1n9 ?h2n9 ?h3n9
      case h1n9 => exact rfl
      case uvn9 => exact (.agg #[.bool (sg m), .int .u64 (l0 m : Int), .int .u64 (l1 m : Int), .int .u64 (l2 m : Int), .int .u64 (l3 m : Int)])
      case h2n9 => exact rfl
      intro w' hw'
      go_simp
      exact kN.out w'
    · refine op_q ?uvn10 ?h1n10 ?h2n10 ?h3n10
      case h1n10 => exact rfl
      case uvn10 => exact (.pointer (some ⟨g0, 5, none⟩))
      case h2n10 => exact rfl
      intro w' hw'
      go_simp
    · refine op_q ?uvn11 ?h1n11 ?h2n11 ?h3n11
      case h1n11 => exact rfl
      case uvn11 => exact (.agg #[.bool (sg d), .int .u64 (l0 d : Int), .int .u64 (l1 d : Int), .int .u64 (l2 d : Int), .int .u64 (l3 d : Int)])
      case h2n11 => exact rfl
      intro w' hw'
      have P1 := P1.same hw' (by intro c hc; simp at hc; (try subst hc); (try simp only); omega)
      have xP1 := ten_cells P1
      go_simp
    · refine op_q ?uvn12 ?h1n12 ?h2n12 ?h3n12
      case h1n12 => exact rfl
      case uvn12 => exact (.agg #[.bool (sg m), .int .u64 (l0 m : Int), .int .u64 (l1 m : Int), .int .u64 (l2 m : Int), .int .u64 (l3 m : Int), .bool (sg d), .int .u64 (l0 d : Int), .int .u64 (l1 d : Int), .int .u64 (l2 d : Int), .int .u64 (l3 d : Int)])
      case h2n12 => exact rfl
      intro w' hw'
      go_simp
    · refine op_so (c := 0) (T := ?uTn13) (p := ?upn13) (x := ?uxn13) ?ugn13 ?ufn13 ?uvn13 ?h1n13 ?h2n13 ?h3n13 ?h4n13 ?h5n13 ?h6n13 ?h7n13
      case h1n13 => exact rfl
      case h2n13 => exact rfl
      case ufn13 => exact (.cells #[.bool (sg m), .int .u64 (l0 m : Int), .int .u64 (l1 m : Int), .int .u64 (l2 m : Int), .int .u64 (l3 m : Int), .bool (sg d), .int .u64 (l0 d : Int), .int .u64 (l1 d : Int), .int .u64 (l2 d : Int), .int .u64 (l3 d : Int)] 35 (0, 0))
      case ugn13 => exact g0 + 1
      case uvn13 => exact (.agg #[.bool (sg m), .int .u64 (l0 m : Int), .int .u64 (l1 m : Int), .int .u64 (l2 m : Int), .int .u64 (l3 m : Int), .bool (sg d), .int .u64 (l0 d : Int), .int .u64 (l1 d : Int), .int .u64 (l2 d : Int), .int .u64 (l3 d : Int)])
      case h3n13 => exact rfl
      case h4n13 => exact rfl
      case h5n13 => go_simp; rfl
      case h6n13 => go_simp
      intro ρ w' hp hx hz
      exact store_ratio rfl hp hx (hz.trans P2)
  · intro G W1 hI
    have hS := hI.same
    have P1 := P1.same hS (by intro c hc; simp at hc; (try subst hc); (try simp only); omega)
    have hso : ∀ c, Tag.so c ∈ [.q, .q, .q, .q, .q, .q, .so 0] → w.heap.size ≤ (fun _ => g0 + 1) c := by intro c hc; simp at hc; (try subst hc); (try simp only); omega
    have EE := hide (hS.ext' EE.out hso)
    have P2 : Box10 W1 (g0 + 1) (sg m) (l0 m) (l1 m) (l2 m) (l3 m) (sg d) (l0 d) (l1 d) (l2 d) (l3 d) := hI.olds' 6 (List.mem_range.2 (show 6 < 7 by decide)) 0 rfl
    clear hI hS
    simp only [putAll, slotV, ptrTo, Nat.zero_add, Nat.reduceAdd]
    go_wp2_with fail
    obtain ⟨xP20, xP21, xP22, xP23, xP24, xP25, xP26, xP27, xP28, xP29, xP2f0, xP2f1, xP2f2, xP2f3, xP2f4, xP2f5, xP2f6, xP2f7, xP2f8, xP2f9⟩ := ten_cells P2
    exact bodyPost_ret (v := .agg #[.bool (sg m), .int .u64 (l0 m : Int), .int .u64 (l1 m : Int), .int .u64 (l2 m : Int), .int .u64 (l3 m : Int), .bool (sg d), .int .u64 (l0 d : Int), .int .u64 (l1 d : Int), .int .u64 (l2 d : Int), .int .u64 (l3 d : Int)]) (by simp [results, Try.results77, go_sem, xP20, xP21, xP22, xP23, xP24, xP25, xP26, xP27, xP28, xP29]) rfl ⟨rfl, EE.out⟩
end Go.Proofs.Ytbnbkondbdakeaa
