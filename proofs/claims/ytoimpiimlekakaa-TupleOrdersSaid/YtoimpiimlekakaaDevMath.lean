/- A device, as mathematics: what lasts, what was written since, and what each act makes of it. -/
import Derived.Test.YtoimpiimlekakaaFar
namespace Go.Proofs.Ytoimpiimlekakaa

section
variable {α : Type}
/-- f, but x at i -/
def upd (f : Int → Option α) (i : Int) (x : α) : Int → Option α := fun k => if k = i then some x else f k
/-- what is written in l, one behind the other, laid over f -/
def lay (f : Int → Option α) (l : List (Int × α)) : Int → Option α := l.foldl (fun f e => upd f e.1 e.2) f
def nothing : Int → Option α := fun _ => none
theorem upd_same (f : Int → Option α) (i : Int) (x : α) : upd f i x i = some x := by simp [upd]
theorem upd_other (f : Int → Option α) {i k : Int} (x : α) (h : k ≠ i) : upd f i x k = f k := by simp [upd, h]
theorem lay_nil (f : Int → Option α) : lay f [] = f := rfl
theorem lay_snoc (f : Int → Option α) (l : List (Int × α)) (i : Int) (x : α) : lay f (l ++ [(i, x)]) = upd (lay f l) i x := by simp [lay, List.foldl_append]
/-- f, and g where f has nothing -/
def over (f g : Int → Option α) : Int → Option α := fun k => match f k with | some x => some x | none => g k
theorem over_upd (f g : Int → Option α) (i : Int) (x : α) : over (upd f i x) g = upd (over f g) i x := by
  funext k
  by_cases h : k = i
  · subst h; simp [over, upd]
  · simp [over, upd, h]
theorem lay_over (g : Int → Option α) : ∀ (l : List (Int × α)) (f : Int → Option α), lay (over f g) l = over (lay f l) g
  | [], _ => rfl
  | e :: l, f => by
    show lay (upd (over f g) e.1 e.2) l = over (lay (upd f e.1 e.2) l) g
    rw [← over_upd]; exact lay_over g l _
theorem over_nothing (g : Int → Option α) : over nothing g = g := by funext k; rfl
/-- what lies below and what was laid over it -/
theorem lay_eq (g : Int → Option α) (l : List (Int × α)) : lay g l = over (lay nothing l) g := by rw [← lay_over, over_nothing]
/-- those at whose number keep has true -/
def kept : List Bool → List (Int × α) → List (Int × α)
  | _, [] => []
  | [], _ => []
  | b :: k, e :: l => if b then e :: kept k l else kept k l
theorem kept_nil (l : List (Int × α)) : kept [] l = [] := by cases l <;> rfl
theorem kept_all : ∀ (l : List (Int × α)), kept (List.replicate l.length true) l = l
  | [] => rfl
  | e :: l => by show e :: kept (List.replicate l.length true) l = _; rw [kept_all l]
theorem kept_none : ∀ (l : List (Int × α)), kept (List.replicate l.length false) l = []
  | [] => rfl
  | e :: l => by show kept (List.replicate l.length false) l = _; rw [kept_none l]
theorem kept_take (keep : List Bool) (l : List (Int × α)) {i : Nat} {e : Int × α} (h : l[i]? = some e) :
    kept keep (l.take (i + 1)) = if keep.getD i false then kept keep (l.take i) ++ [e] else kept keep (l.take i) := by
  induction l generalizing keep i with
  | nil => simp at h
  | cons a l ih =>
    match keep, i with
    | [], i => rw [kept_nil, kept_nil]; simp
    | b :: k, 0 =>
      simp at h; subst h
      show kept (b :: k) (a :: l.take 0) = if b = true then kept (b :: k) [] ++ [a] else kept (b :: k) []
      have e1 : ∀ k : List Bool, kept k (l.take 0) = [] := fun k => by rw [List.take_zero]; cases k <;> rfl
      cases b <;> simp [kept]
    | b :: k, i + 1 =>
      have h' : l[i]? = some e := by simpa using h
      have := ih k h'
      show kept (b :: k) (a :: l.take (i + 1)) = if k.getD i false then kept (b :: k) (a :: l.take i) ++ [e] else kept (b :: k) (a :: l.take i)
      cases b
      · show kept k (l.take (i + 1)) = if k.getD i false then kept k (l.take i) ++ [e] else kept k (l.take i)
        exact this
      · show a :: kept k (l.take (i + 1)) = if k.getD i false then (a :: kept k (l.take i)) ++ [e] else a :: kept k (l.take i)
        rw [this]; split <;> simp
theorem kept_mem (keep : List Bool) : ∀ (l : List (Int × α)), ∀ e ∈ kept keep l, e ∈ l := by
  induction keep with
  | nil => intro l e he; rw [kept_nil] at he; cases he
  | cons b k ih =>
    intro l e he
    match l, he with
    | [], he => cases he
    | a :: l, he =>
      cases b
      · exact List.mem_cons_of_mem _ (ih l e he)
      · rcases List.mem_cons.1 he with h | h
        · rw [h]; exact List.mem_cons_self
        · exact List.mem_cons_of_mem _ (ih l e h)
theorem kept_length (keep : List Bool) : ∀ (l : List (Int × α)), (kept keep l).length ≤ l.length := by
  induction keep with
  | nil => intro l; rw [kept_nil]; simp
  | cons b k ih =>
    intro l
    match l with
    | [] => exact Nat.le_refl _
    | a :: l =>
      have := ih l
      cases b
      · show (kept k l).length ≤ _; simp; omega
      · show (a :: kept k l).length ≤ _; simp; omega
/-- what holds of all below and of all that is written holds of all laid over -/
theorem lay_all (p : α → Prop) : ∀ (l : List (Int × α)) (f : Int → Option α), (∀ k x, f k = some x → p x) → (∀ e ∈ l, p e.2) → ∀ k x, lay f l k = some x → p x
  | [], f, hf, _ => hf
  | e :: l, f, hf, hl => by
    refine lay_all p l (upd f e.1 e.2) ?_ fun e' he => hl e' (List.mem_cons_of_mem _ he)
    intro k x hx
    by_cases h : k = e.1
    · subst h; rw [upd_same] at hx; injection hx with hx; subst hx; exact hl e List.mem_cons_self
    · rw [upd_other _ _ h] at hx; exact hf k x hx
end

/-- a device: its size, its blocks, what lasts, what was written since the last Sync, fuse and fault (whether there is one, and how many acts more it lets be done), whether the power has gone, how many acts were done -/
structure St where
  size : Nat
  blocks : Int
  fl : Int → Option (List Nat)
  later : List (Int × List Nat)
  fb : Bool
  fn : Int
  tb : Bool
  tn : Int
  down : Bool
  acts : Int

def fresh (size : Nat) (blocks : Int) : St := ⟨size, blocks, nothing, [], false, 0, false, 0, false, 0⟩
/-- a block, as it reads -/
def blk (n : Nat) (o : Option (List Nat)) : List Nat := match o with | some l => l | none => List.replicate n 0
def St.now (s : St) (x : Int) : List Nat := blk s.size (lay s.fl s.later x)
/-- an act's beginning: what is answered, and the device then -/
def begin (s : St) (right : Bool) : Int × St :=
  if s.down then (8, s) else if right = false then (1, s)
  else if s.fb = true ∧ s.fn = 0 then (8, { s with down := true })
  else
    let fn' := if s.fb then s.fn - 1 else s.fn
    if s.tb = true ∧ s.tn = 0 then (6, { s with fn := fn', tb := false, tn := 0 })
    else (0, { s with fn := fn', tn := if s.tb then s.tn - 1 else s.tn, acts := s.acts + 1 })
def right (s : St) (i : Int) : Bool := decide (0 ≤ i) && decide (i < s.blocks)
def read (s : St) (i : Int) : Int × St := begin s (right s i)
def write (s : St) (i : Int) (l : List Nat) : Int × St :=
  let r := begin s (right s i && decide (l.length = s.size))
  if r.1 = 0 then (0, { r.2 with later := s.later ++ [(i, l)] }) else r
def sync (s : St) : Int × St :=
  let r := begin s true
  if r.1 = 0 then (0, { r.2 with fl := lay s.fl s.later, later := [] }) else r
def crash (s : St) (keep : List Bool) : St := { fresh s.size s.blocks with fl := lay s.fl (kept keep s.later), acts := s.acts }

/-- an act's beginning leaves the blocks, and the bounds -/
theorem begin_same (s : St) (b : Bool) : (begin s b).2.size = s.size ∧ (begin s b).2.blocks = s.blocks ∧ (begin s b).2.fl = s.fl ∧ (begin s b).2.later = s.later := by
  unfold begin; split <;> (try split) <;> (try split) <;> (try dsimp only) <;> (try split) <;> exact ⟨rfl, rfl, rfl, rfl⟩
theorem begin_acts (s : St) (b : Bool) : (begin s b).2.acts = s.acts ∨ (begin s b).2.acts = s.acts + 1 := by
  unfold begin; split <;> (try split) <;> (try split) <;> (try dsimp only) <;> (try split) <;> first | exact .inl rfl | exact .inr rfl
/-- without fuse and fault, and with power: it is done -/
theorem begin_ok (s : St) (h1 : s.down = false) (h2 : s.fb = false) (h3 : s.tb = false) : begin s true = (0, { s with acts := s.acts + 1 }) := by
  unfold begin; simp [h1, h2, h3]
/-- with power, without fuse and fault -/
def Calm (s : St) : Prop := s.down = false ∧ s.fb = false ∧ s.tb = false
theorem fresh_calm (n : Nat) (b : Int) : Calm (fresh n b) := ⟨rfl, rfl, rfl⟩
theorem crash_calm (s : St) (k : List Bool) : Calm (crash s k) := ⟨rfl, rfl, rfl⟩
theorem read_ok {s : St} (h : Calm s) {i : Int} (hi : right s i = true) : read s i = (0, { s with acts := s.acts + 1 }) := by
  unfold read; rw [hi]; exact begin_ok s h.1 h.2.1 h.2.2
theorem write_ok {s : St} (h : Calm s) {i : Int} (hi : right s i = true) {l : List Nat} (hl : l.length = s.size) : write s i l = (0, { s with acts := s.acts + 1, later := s.later ++ [(i, l)] }) := by
  have : (right s i && decide (l.length = s.size)) = true := by simp [hi, hl]
  unfold write; rw [this, begin_ok s h.1 h.2.1 h.2.2]; rfl
theorem sync_ok {s : St} (h : Calm s) : sync s = (0, { s with acts := s.acts + 1, fl := lay s.fl s.later, later := [] }) := by
  unfold sync; rw [begin_ok s h.1 h.2.1 h.2.2]; rfl
theorem begin_down (s : St) (b : Bool) (h1 : s.down = true) : begin s b = (8, s) := by unfold begin; simp [h1]
end Go.Proofs.Ytoimpiimlekakaa
