/-
  A token as it stands in a text, and lex.Write, each by a contract. No condition but that the tokens are such as Scan tells, and that the table of powers of ten holds what the library's text lays there.
-/
import Derived.Test.YtdgdckmhmmigkaaGreatDoorELBld
namespace Go.Proofs.YtdgdckmhmmigkaaGreatDoor
open Go.RowKit

theorem txt_app (a b : Bs) : (⟨a.toArray⟩ : ByteArray) ++ ⟨b.toArray⟩ = ⟨(a ++ b).toArray⟩ := by
  apply ByteArray.ext
  rw [ByteArray.data_append]
  simp

theorem Box5.kept {w w' : World} {B b : Nat} {t : TypeId} {a1 a2 a3 a4 a5 : Value} (h : Box5 w B t a1 a2 a3 a4 a5) (k : Lib.OthersKept 5 (some b) w w') (hb : B ≠ b) (ht : t ≠ 5) : Box5 w' B t a1 a2 a3 a4 a5 := by
  refine k B _ h ?_ ?_
  · simpa using hb
  · intro c fz q
    injection q with _ h2 _
    exact ht h2

theorem RdG.tok {w : World} {b off : Nat} {ts : List Tk} (h : RdG encT w (some ⟨b, off, none⟩) ts) {i : Nat} {t : Tk} (hx : ts[i]? = some t) : b < w.heap.size ∧
    w.cell? ⟨b, off + i * 5, none⟩ = some (.int .i64 t.kind) ∧ w.cell? ⟨b, off + i * 5 + 1, none⟩ = some (.string ⟨t.text.toArray⟩) ∧ w.cell? ⟨b, off + i * 5 + 2, none⟩ = some (.int .i64 t.num) ∧ w.cell? ⟨b, off + i * 5 + 3, none⟩ = some (.int .u64 t.id) ∧ w.cell? ⟨b, off + i * 5 + 4, none⟩ = some (.int .i64 t.pos) := by
  obtain ⟨b', off', e', hlt, hc⟩ := h (by rcases Nat.lt_or_ge i ts.length with q | q
                                          · omega
                                          · rw [List.getElem?_eq_none q] at hx; cases hx)
  obtain ⟨rfl, rfl⟩ : b = b' ∧ off = off' := by simpa using e'
  have h0 := hc i t hx 0 _ rfl
  have h1 := hc i t hx 1 _ rfl
  have h2 := hc i t hx 2 _ rfl
  have h3 := hc i t hx 3 _ rfl
  have h4 := hc i t hx 4 _ rfl
  exact ⟨hlt, by simpa [encT] using h0, by simpa [encT, Nat.add_assoc] using h1, by simpa [encT, Nat.add_assoc] using h2, by simpa [encT, Nat.add_assoc] using h3, by simpa [encT, Nat.add_assoc] using h4⟩

end Go.Proofs.YtdgdckmhmmigkaaGreatDoor
