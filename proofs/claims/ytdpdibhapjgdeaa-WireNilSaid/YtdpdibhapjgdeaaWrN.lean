/-
  The law WireNil: what each call of the law's function comes to.
-/
import Derived.Test.YtdpdibhapjgdeaaWrI
namespace Go.Proofs.Ytdpdibhapjgdeaa
open Go Go.ChangeShapes Go.WideShapes Go.ChangeAt Go.RowKit

set_option maxHeartbeats 1000000 in
theorem WireNil_any (n s m : Int) (w : World) : Calls Try.prog 7 #[.int .u64 n, .int .i64 s, .int .i64 m] w fun e w' => e = .returned (.bool true) ∧ Below w.heap.size w w' := by
  have HF := hid (fun w => Fits_any s w)
  have HN := hid (fun w => RdNum_nil w s)
  cases hf : fits s with
  | false =>
    rw [hf] at HF HN
    clear hf
    go_enter Try.func7, Try.ntmps7
    go_wp2_with (first
      | (go_at_call 16; refine (Num_nil _ _ _).mono ?_; rintro e w' ⟨rfl, rfl⟩)
      | (go_at_call 13; refine (Text_nil _ _).mono ?_; rintro e w' ⟨rfl, rfl⟩)
      | (go_at_call 20; refine (Bytes_nil _).mono ?_; rintro e w' ⟨rfl, rfl⟩)
      | (go_at_call 17; refine (HF.out _).mono ?_; rintro e w' ⟨rfl, rfl⟩)
      | fail)
    refine (HN.out _).mono ?_
    rintro e w1 ⟨rfl, h1⟩
    have H1 := hid h1
    clear h1
    go_wp2_with fail
    refine (RdText_nil _ _).mono ?_
    rintro e w2 ⟨rfl, h2⟩
    have H2 := hid (H1.out.trans (h2.mono H1.out.size))
    clear h2
    go_wp2_with (first
      | (go_at_call 27; refine (Left_nil _).mono ?_; rintro e w' ⟨rfl, rfl⟩)
      | (go_at_call 28; refine (End_nil _).mono ?_; rintro e w' ⟨rfl, rfl⟩)
      | fail)
    refine (awake_any _).mono ?_
    rintro e w3 ⟨rfl, h3⟩
    have H3 := hid (H2.out.trans (h3.mono H2.out.size))
    clear h3
    go_wp2
    go_ret
    exact ⟨rfl, H3.out⟩
  | true =>
    rw [hf] at HF HN
    clear hf
    go_enter Try.func7, Try.ntmps7
    go_wp2_with (first
      | (go_at_call 16; refine (Num_nil _ _ _).mono ?_; rintro e w' ⟨rfl, rfl⟩)
      | (go_at_call 13; refine (Text_nil _ _).mono ?_; rintro e w' ⟨rfl, rfl⟩)
      | (go_at_call 20; refine (Bytes_nil _).mono ?_; rintro e w' ⟨rfl, rfl⟩)
      | (go_at_call 17; refine (HF.out _).mono ?_; rintro e w' ⟨rfl, rfl⟩)
      | fail)
    refine (HN.out _).mono ?_
    rintro e w1 ⟨rfl, h1⟩
    have H1 := hid h1
    clear h1
    go_wp2_with fail
    refine (RdText_nil _ _).mono ?_
    rintro e w2 ⟨rfl, h2⟩
    have H2 := hid (H1.out.trans (h2.mono H1.out.size))
    clear h2
    go_wp2_with (first
      | (go_at_call 27; refine (Left_nil _).mono ?_; rintro e w' ⟨rfl, rfl⟩)
      | (go_at_call 28; refine (End_nil _).mono ?_; rintro e w' ⟨rfl, rfl⟩)
      | fail)
    refine (awake_any _).mono ?_
    rintro e w3 ⟨rfl, h3⟩
    have H3 := hid (H2.out.trans (h3.mono H2.out.size))
    clear h3
    go_wp2
    go_ret
    exact ⟨rfl, H3.out⟩
end Go.Proofs.Ytdpdibhapjgdeaa
