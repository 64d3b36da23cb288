/- The code's norm does what nodes are put together by. -/
import Derived.Test.YtcghclikkeajfaaGreatMh
import Derived.Test.YtcghclikkeajfaaGreatNormAnd
import Derived.Test.YtcghclikkeajfaaGreatNormOr
import Derived.Test.YtcghclikkeajfaaGreatMA
import Derived.Test.YtcghclikkeajfaaGreatNormNullP
namespace Go.Proofs.YtcghclikkeajfaaGreat
open Go.RowKit
set_option linter.unusedVariables false

section
variable {AA : World → Value → List Nd → (Nat → Prop) → Prop}
theorem normSpec (S : ArenaMap AA) : NormSpec AA where
  none := fun h hc hr => (nNone S.toArenaMid h hc hr).mono (fun _ _ g => g.mono (fun more r q => ⟨q.1, by have := q.2.1; omega⟩))
  empty := fun h hc hr => (nEmpty S.toArenaMid h hc hr).mono (fun _ _ g => g.mono (fun more r q => ⟨q.1, by have := q.2.1; omega⟩))
  all := fun h hc hr => (nAll S.toArenaMid h hc hr).mono (fun _ _ g => g.mono (fun more r q => ⟨q.1, by have := q.2; omega⟩))
  bytes := fun s h hc hs hr => (nBytes S.toArenaMid s h hc hs hr).mono (fun _ _ g => g.mono (fun more r q => ⟨by
    rcases q.1 with ⟨_, z⟩ | ⟨_, z⟩
    · exact Or.inl z
    · exact Or.inr (byte_kind z), by have := q.2.1; omega⟩))
  look := fun k neg h hc hI hk hr => nLook S.toArenaMid k neg h hc hk hr
  lookNo := fun k neg h hc hI hk hr => nLookNo S.toArenaMid k neg h hI hk
  cat := fun x y h hc hx hy hr => (nCat S.toArenaMid x y h hc hx hy hr).mono (fun _ _ g => g.mono (fun more r q => ⟨q.1, by have := q.2.1; omega, fun z => by rw [q.2.2 z]; exact Nat.zero_le _⟩))
  or := fun l h hc hv hl hr => (nOr S l h hc hv hl hr).mono (fun _ _ g => g.mono (fun more r q => q))
  and := fun l h hc hv hl hr => (nAnd S l h hc hv hl hr).mono (fun _ _ g => g.mono (fun more r q => q))
  not := fun x h hc hx hr => (nNot S.toArenaMid x h hc hx (by omega)).mono (fun _ _ g => g.mono (fun more r q => ⟨q.1, by have := q.2.1; omega⟩))
  star := fun x h hc hx hr => (nStar S.toArenaMid x h hc hx hr).mono (fun _ _ g => g.mono (fun more r q => ⟨q.1, by have := q.2; omega⟩))
  null := fun id bits h hid hb => nNull S.toArenaMid id bits h hid hb
end
theorem normIs : NormSpec AA := normSpec arenaMap

end Go.Proofs.YtcghclikkeajfaaGreat
