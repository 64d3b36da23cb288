/- The code's arena does what an arena does; and what a nil one does. -/
import Derived.Test.YtoicbahkoejhjaaArenaTurn
import Derived.Test.YtoicbahkoejhjaaArenaSets
namespace Go.Proofs.Ytoicbahkoejhjaa
open Go.RowKit
theorem arenaIs : ArenaSpec AA where
  low := AA.low
  keep := AA.keep
  fine := AA.fine
  new := aNew
  put := fun x h hx hn => aPut x h hx (by omega)
  len := fun h _ => (aLen h).mono (by rintro e w1 ⟨rfl, rfl⟩; exact ⟨rfl, 0, rfl⟩)
  node := fun i h hi _ => aNode i h hi
  turn := fun i h _ hn => aTurn i h hn
  sets := fun i h _ hn => aSets i h hn
theorem nilIs : NilSpec where
  put := fun w x _ => nilPut w x
  node := fun w i _ => nilNode w i
  len := fun w => (nilLen w).mono (by rintro e w1 ⟨rfl, rfl⟩; exact ⟨rfl, Below.refl _ _⟩)
  turn := fun w i _ => nilTurn w i
  sets := fun w i _ => nilSets w i

end Go.Proofs.Ytoicbahkoejhjaa
