
import Derived.Test.YtpmmbcobjibpeaaGreatDoorWdl
namespace Go.Proofs.YtpmmbcobjibpeaaGreatDoor
set_option linter.unusedSimpArgs false
set_option linter.unusedVariables false
open Go.RowKit Go.Lib

/-! Words: Meet of any two; the law's asks. -/
theorem wmeet_any (a : Bool) (l : List ByteArray) (A : Option Addr) (c : Nat) (b : Bool) (m : List ByteArray) (A2 : Option Addr) (c2 : Nat) (w : World) (hl : Strs w A l) (hm : Strs w A2 m) (hA : A = none → c = 0) (hA2 : A2 = none → c2 = 0)
    (hn : l.length * 16 ≤ 140737488355328) (hn2 : m.length * 16 ≤ 140737488355328) (hnn : a = true → b = true → (l.length + m.length) * 16 ≤ 140737488355328) (hs : ∀ s ∈ l, Fits s) (hs2 : ∀ s ∈ m, Fits s) :
    Calls Tryz.prog 64 #[wset a A l.length c, wset b A2 m.length c2] w fun e w' => Made w w' e (fun v => .agg #[.bool (a && b), v]) (meetl a l b m) := by
  cases a with
  | false => exact meet_some l A c b m A2 c2 w hl hm hA hA2 hn hn2 hs hs2
  | true =>
    cases b with
    | false => exact meet_swap l A c m A2 c2 w hl hm hA hA2 hn hn2 hs hs2
    | true => exact meet_both l A c m A2 c2 w hl hm hA hA2 hn hn2 (hnn rfl rfl) hs hs2
def askb (s : ByteArray) : List ByteArray := [s, ⟨#[]⟩, ⟨#[97]⟩, ⟨#[120]⟩, ⟨#[0]⟩, ⟨#[255]⟩]
def askl (s : ByteArray) (l m : List ByteArray) : List ByteArray := askb s ++ l.take 20 ++ m.take 20
theorem askl_fits {s : ByteArray} {l m : List ByteArray} (h0 : Fits s) (h1 : ∀ s ∈ l, Fits s) (h2 : ∀ s ∈ m, Fits s) : ∀ x ∈ askl s l m, Fits x := by
  intro x hx
  unfold askl at hx
  rcases List.mem_append.1 hx with hx | hx
  · rcases List.mem_append.1 hx with hx | hx
    · simp only [askb, List.mem_cons, List.not_mem_nil, or_false] at hx
      rcases hx with rfl | rfl | rfl | rfl | rfl | rfl
      · exact h0
      all_goals (unfold Fits; decide)
    · exact h1 x (List.mem_of_mem_take hx)
  · exact h2 x (List.mem_of_mem_take hx)
theorem askl_len (s : ByteArray) (l m : List ByteArray) : (askl s l m).length ≤ 46 := by
  unfold askl askb
  simp only [List.length_append, List.length_cons, List.length_nil, List.length_take]
  omega
end Go.Proofs.YtpmmbcobjibpeaaGreatDoor
