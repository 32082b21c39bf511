/- FrameRight: the walk of the statement's function. -/
import Derived.Test.YtpmheaeiemnjeaaFrameH
import Derived.Test.YtpmheaeiemnjeaaFrameK
namespace Go.Proofs.Ytpmheaeiemnjeaa
set_option linter.unusedVariables false
open Go.ChangeShapes Go.WideShapes Go.ChangeAt Go.RowKit

/-- The bytes that Put answers, and its error. -/
def outL (m : Msg) : List Nat := if mayM m then frameL m.k.toNat m.f.toNat m.t.toNat m.l.toNat m.o.toNat m.a.toNat m.own m.n m.v else []
def outE (m : Msg) : Int := if mayM m then 0 else 1
theorem byts_nil (w : World) : Byts w none [] := ⟨(fun x hx => by cases hx), (fun h0 => absurd h0 (by decide))⟩
theorem put_out (m : Msg) (w : World) (hn : m.n < 4294967296) (hv : m.v < 4294967296) :
    Calls Try.prog 24 #[.agg m.row] w fun e w' => ∃ q n c, e = .returned (.tuple #[.slice q n c, .int .i64 (outE m)]) ∧ (outL m).length = n ∧ Byts w' q (outL m) ∧ Below w.heap.size w w' := by
  unfold outL outE
  cases h : mayM m with
  | false => exact (put_no m w h).mono fun e w' ⟨h1, h2⟩ => ⟨none, 0, 0, h1, rfl, byts_nil w', h2⟩
  | true =>
    obtain ⟨k, f, t, l, o, a, own, n, v, rfl, hf⟩ := may_fit h hn hv
    refine (put_fit k f t l o a own n v w hf).mono fun e w' => ?_
    rintro ⟨g, cap, rfl, h1, h2⟩
    exact ⟨_, _, _, rfl, rfl, h1.byts rfl (frame_lt hf), h2⟩
theorem rput_out (m : Msg) (w : World) (hn : m.n < 4294967296) (hv : m.v < 4294967296) :
    Calls Try.prog 26 #[.agg m.row] w fun e w' => ∃ q n c, e = .returned (.tuple #[.slice q n c, .int .i64 (outE m)]) ∧ (outL m).length = n ∧ Byts w' q (outL m) ∧ Below w.heap.size w w' := by
  unfold outL outE
  cases h : mayM m with
  | false => exact (rput_no m w h).mono fun e w' ⟨h1, h2⟩ => ⟨none, 0, 0, h1, rfl, byts_nil w', h2⟩
  | true =>
    obtain ⟨k, f, t, l, o, a, own, n, v, rfl, hf⟩ := may_fit h hn hv
    have hc : Calls Try.prog 26 #[.agg (Msg.row ⟨k, f, t, l, o, a, own, n, v⟩)] w fun e w' => ∃ r, e = .returned (.tuple #[r, .int .i64 0]) ∧ w'.ownsRow w.heap.size 5 1 r 19 (u8C (frameL k f t l o a own n v)) ∧ Below w.heap.size w w' := by
      cases own
      · exact rput_f k f t l o a n v w hf.may hf.hk hf.hf hf.ht hf.hl hf.ho hf.ha hf.hn hf.hv
      · exact rput_t k f t l o a n v w hf.may hf.hk hf.hf hf.ht hf.hl hf.ho hf.ha hf.hn hf.hv
    refine hc.mono fun e w' => ?_
    rintro ⟨r, rfl, h1, h2⟩
    obtain ⟨g, cap, rfl, h3, h4, h5⟩ := own_form h1 (by decide)
    exact ⟨_, _, _, rfl, rfl, byts_own h1 rfl (frame_lt hf), h2⟩

end Go.Proofs.Ytpmheaeiemnjeaa
