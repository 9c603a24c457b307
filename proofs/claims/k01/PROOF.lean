import PyProof.Rows.All
import Wide.All
import OpenK.AllK
import Wide.FinOn
import HandS.Base
import HandS.Call
import HandS.List
import HandS.Comp
import HandS.Ends
import HandS.Dict
import HandS.Iter
import HandS.Text
import HandS.Words
import HandS.Codes
import HandS.Defaults
import HandS.IsInst
import HandS.MakeKwOnly
import PySem.Challenge.RW_raisekeys_k01_rectangles
set_option Elab.async false
set_option linter.all false
set_option maxRecDepth 100000
set_option maxHeartbeats 4000000
namespace RK
open PySem PySem.Spec PyProof.Rows L2
/-! ### heaps -/
theorem same_new {H : Hp} {p : Addr} (h : H p = none) (o : HO) : Same H (upd H p o) := fun b u q => by rw [upd_ne (ne_of_none q h)]; exact q
theorem new_ex {H : Hp} {p : Addr} (h : H p = none) (o : HO) : ∃ H', H' = upd H p o ∧ Same H H' ∧ H' p = some o := ⟨_, rfl, same_new h o, upd_same⟩
/-- all but b stands as it stood -/
def Keep (b : Addr) (H H' : Hp) : Prop := ∀ a o, a ≠ b → H a = some o → H' a = some o
theorem Keep.refl (b : Addr) (H : Hp) : Keep b H H := fun _ _ _ h => h
theorem Keep.trans {b : Addr} {H H1 H2 : Hp} (a : Keep b H H1) (c : Keep b H1 H2) : Keep b H H2 := fun x o n h => c x o n (a x o n h)
theorem Keep.of {b : Addr} {H H1 : Hp} (a : Same H H1) : Keep b H H1 := fun x o _ h => a x o h
theorem Keep.upd {b : Addr} {H H1 : Hp} {o : HO} (a : Keep b H H1) : Keep b H (upd H1 b o) := fun x u n h => by rw [upd_ne n]; exact a x u n h
theorem Keep.tup {b t : Addr} {H H1 : Hp} {xs ys : List V} (k : Keep b H H1) (hb : H b = some (.lst ys)) (h : H t = some (.tup xs)) : H1 t = some (.tup xs) := k t _ (ne_of h hb (by intro z; cases z)) h
theorem Keep.dK {b t : Addr} {H H1 : Hp} {xs : List (Key × V)} {ys : List V} (k : Keep b H H1) (hb : H b = some (.lst ys)) (h : H t = some (.dK xs)) : H1 t = some (.dK xs) := k t _ (ne_of h hb (by intro z; cases z)) h
/-- fresh behind is fresh before -/
theorem Keep.free {b l : Addr} {H H1 : Hp} (k : Keep b H H1) (n : l ≠ b) (h : H1 l = none) : H l = none := by
  cases q : H l with
  | none => rfl
  | some o =>
    rw [k l o n q] at h
    cases h
/-- a bag: the script's copy at s, how many are taken, the great number, the salt -/
structure BagC (H : Hp) (b s : Addr) (ns : List Int) (i : Nat) (big salt : Int) : Prop where
  hb : H b = some (.lst [.ref s, .int i, .int big, .int salt])
  hs : H s = some (.lst (ns.map V.int))
  ne : s ≠ b
  hi : i ≤ ns.length
  hn : ns.length ≤ 63
  h0 : 0 ≤ big
  h1 : 0 ≤ salt
  h2 : salt < 2147483647
def Bag (b s : Addr) (H : Hp) : Prop := ∃ ns i big salt, BagC H b s ns i big salt
theorem Bag.hb {b s : Addr} {H : Hp} (B : Bag b s H) : ∃ ys, H b = some (.lst ys) := by
  obtain ⟨ns, i, big, salt, B⟩ := B
  exact ⟨_, B.hb⟩
theorem Bag.hs {b s : Addr} {H : Hp} (B : Bag b s H) : ∃ ys, H s = some (.lst ys) := by
  obtain ⟨ns, i, big, salt, B⟩ := B
  exact ⟨_, B.hs⟩
theorem Bag.ne {b s : Addr} {H : Hp} (B : Bag b s H) : s ≠ b := by
  obtain ⟨ns, i, big, salt, B⟩ := B
  exact B.ne
theorem Bag.same {b s : Addr} {H H1 : Hp} (B : Bag b s H) (e : Same H H1) : Bag b s H1 := by
  obtain ⟨ns, i, big, salt, B⟩ := B
  exact ⟨ns, i, big, salt, e _ _ B.hb, e _ _ B.hs, B.ne, B.hi, B.hn, B.h0, B.h1, B.h2⟩
theorem Bag.new {b s p : Addr} {H : Hp} {o : HO} (B : Bag b s H) (h : H p = none) : Bag b s (upd H p o) := B.same (same_new h o)
theorem Bag.upd {b s p : Addr} {H : Hp} {o : HO} (B : Bag b s H) (h1 : p ≠ b) (h2 : p ≠ s) : Bag b s (upd H p o) := by
  obtain ⟨ns, i, big, salt, B⟩ := B
  exact ⟨ns, i, big, salt, by rw [upd_ne h1.symm]; exact B.hb, by rw [upd_ne h2.symm]; exact B.hs, B.ne, B.hi, B.hn, B.h0, B.h1, B.h2⟩
theorem Keep.of_tup {b s t : Addr} {H H1 : Hp} {xs : List V} (k : Keep b H H1) (B : Bag b s H) (h : H t = some (.tup xs)) : H1 t = some (.tup xs) := by
  obtain ⟨ys, hb⟩ := B.hb
  exact k.tup hb h
theorem sz {n : Nat} (h : n ≤ 1000) : n ≤ sizeLine := Nat.le_of_lt (small1000 h)
theorem szl {n : Nat} (h : n ≤ 100000) : n < sizeLine := Nat.lt_of_le_of_lt h (by decide)
def spBag (K : PySem.W.Frag) : Sp := fun vs H Q _ => ∃ (a : Addr) (ns : List Int), vs = [.ref a] ∧ SqL K H a (ns.map V.int) ∧ ns.length ≤ 63 ∧ ∀ H' b s, Same H H' → H b = none → H s = none → Bag b s H' → Q (.ref b) H'
def spPull : Sp := fun vs H Q _ => ∃ (b s : Addr) (n : Int), vs = [.ref b, .int n] ∧ Bag b s H ∧ 1 ≤ n ∧ n ≤ 100000 ∧ ∀ r H', 0 ≤ r → r < n → Keep b H H' → Bag b s H' → Q (.int r) H'
theorem cut63 (ns : List Int) (h : ns.length ≤ 63) : cutV (ns.map V.int) none (some 63) = ns.map V.int := by
  unfold cutV
  rw [HT.sIx_none, show HT.sIx (ns.map V.int).length (ns.map V.int).length (some 63) = min 63 (ns.map V.int).length from HT.sIx_nat _ _ 63]
  rw [List.drop_zero, List.length_map]
  exact List.take_of_length_le (by rw [List.length_map]; omega)
theorem at0 {α : Type} {x : α} {xs : List α} : atI (x :: xs) 0 = some x := atI_nat (j := 0) rfl
theorem at1 {α : Type} {x y : α} {xs : List α} : atI (x :: y :: xs) 1 = some y := atI_nat (j := 1) rfl
theorem at2 {α : Type} {x y z : α} {xs : List α} : atI (x :: y :: z :: xs) 2 = some z := atI_nat (j := 2) rfl
theorem at3 {α : Type} {x y z w : α} {xs : List α} : atI (x :: y :: z :: w :: xs) 3 = some w := atI_nat (j := 3) rfl
/-! ### a call by keywords alone -/
section
variable {X : Cx} {CX : CXT} {k : Nat} {f : Addr} {fd : FuncData} {ps ks : List Str} {sp : Sp} {E : XK} {x : Str} {p pos : Pos} {kws : List Keyword} {tk : TA} {g : List Value → List Value → List Value} {gV : List V → List V → List V}
theorem pe_callK0 (F : FnOk X.prog X.w X.K X.mg X.base CX k f fd ps sp) (hr : Room k X.A) (hg : Gl X x) (hm : X.mg x = some (.ref f)) (hk : PySem.W.keepIn X.K (.ref f) = true) (hb : KBinds X.K fd ps ks g gV) (hx : Passes CX X E) (hkw : PK X kws tk)
    (hall : (backToKw pos (keywordEach kws X.env)).all (·.1.isSome) = true := by rfl) (hks : (backToKw pos (keywordEach kws X.env)).filterMap (·.1) = ks := by rfl) (hdb : (x == ("__debug__" : Str)) = false := by decide)
    (hpl : ((backTo pos (starEach [] X.env)).any (·.1) || (backToKw pos (keywordEach kws X.env)).any (·.1.isNone)) = false := by rfl) :
    PE X (.Call (.Name x p) [] kws pos) (tCallK sp gV E tNil tk) := by
  refine ⟨fun pins s σ H Q I h => ?_⟩
  refine wpAny_Call_Name_kw (ld_glob I hg hm ?_ hdb)
  refine PySem.W.callWith_KW0 (h₀ := X.base) I.ok.mod.kin hk hall ?_ hpl
  refine thn (hkw.run pos pins s σ H _ I h) fun ws s2 ⟨zs, H2, I2, rz, q2⟩ => ⟨I2.kIn, ?_⟩
  rw [hks]
  exact run_fnk F hr hb hx I2 .nil rz q2
end
/-! ### len, list(..) by name -/
def rLenQ (K : PySem.W.Frag) : List V → Hp → VK → Prop := fun xs H Q => ∃ p ys, xs = [.ref p] ∧ (SqL K H p ys ∨ SqT K H p ys) ∧ Q (.int ys.length) H
theorem call_lenQ {X : Cx} : CallR X (.builtin "len") (rLenQ X.K) := call_len_seq
def rListQ (K : PySem.W.Frag) : List V → Hp → VK → Prop := fun xs H Q => ∃ p ys, xs = [.ref p] ∧ (SqL K H p ys ∨ SqT K H p ys) ∧ ∀ l, H l = none → Q (.ref l) (upd H l (.lst ys))
theorem call_listQ {X : Cx} : CallR X (.type "list") (rListQ X.K) := call_list_of
/-! ### data -/
section
variable {K : PySem.W.Frag} {H H' : Hp}
theorem same_tup {a : Addr} {xs : List V} (e : Same H H') (h : SqT K H a xs) : SqT K H' a xs := by
  rcases h with (h | ⟨o, h⟩) | h
  · exact .inl (.inl (e _ _ h))
  · exact .inl (.inr ⟨o, e _ _ h⟩)
  · exact .inr h
mutual
theorem dp_same (e : Same H H') : ∀ {v : V} {d : PyData}, Dp K H v d → Dp K H' v d
  | _, _, .non => .non
  | _, _, .bl b => .bl b
  | _, _, .int i => .int i
  | _, _, .str x => .str x
  | _, _, .lst h a => .lst (e.seq h) (dpAll_same e a)
  | _, _, .tup h a => .tup (same_tup e h) (dpAll_same e a)
theorem dpAll_same (e : Same H H') : ∀ {vs : List V} {ds : List PyData}, DpAll K H vs ds → DpAll K H' vs ds
  | _, _, .nil => .nil
  | _, _, .cons h a => .cons (dp_same e h) (dpAll_same e a)
end
theorem dpAll_len : ∀ {vs : List V} {ds : List PyData}, DpAll K H vs ds → vs.length = ds.length
  | _, _, .nil => rfl
  | _, _, .cons _ a => congrArg Nat.succ (dpAll_len a)
theorem dpAll_at : ∀ {vs : List V} {ds : List PyData} {i : Nat} {d : PyData}, DpAll K H vs ds → ds[i]? = some d → ∃ v, vs[i]? = some v ∧ Dp K H v d
  | _, _, _, _, .nil, h => by simp at h
  | _, _, 0, _, .cons (v := v) q _, h => by
    have e := Option.some.inj h
    exact ⟨v, rfl, e ▸ q⟩
  | _, _, i + 1, _, .cons _ a, h => dpAll_at (i := i) a h
def leafD : PyData → Bool
  | .none => true | .bool _ => true | .int _ => true | .str _ => true | _ => false
def okD : Nat → PyData → Bool
  | 0, d => leafD d
  | n + 1, .list ds => decide (ds.length ≤ 1000) && ds.all (okD n)
  | n + 1, .tuple ds => decide (ds.length ≤ 1000) && ds.all (okD n)
  | _ + 1, d => leafD d
def tyN : PyData → String
  | .none => "NoneType" | .bool _ => "bool" | .int _ => "int" | .str _ => "str" | .list _ => "list" | .tuple _ => "tuple" | .dict _ => "dict"
def isT : PyData → Bool
  | .tuple _ => true | _ => false
def isL : PyData → Bool
  | .list _ => true | _ => false
def isB : PyData → Bool
  | .bool _ => true | _ => false
theorem ty_of {v : V} {d : PyData} (h : Dp K H v d) : TyX K H v (.type (tyN d)) := by
  cases h with
  | non => exact .base .non
  | bl b => exact .base (.bl b)
  | int i => exact .base (.int i)
  | str x => exact .base (.str x)
  | lst h _ =>
    rcases h with (h | ⟨o, h⟩) | ⟨o, its, n, l, c, _⟩
    · exact .base (.lst h)
    · exact .base (.frz h)
    · exact .kList l c
  | tup h _ =>
    rcases h with (h | ⟨o, h⟩) | ⟨o, its, n, l, c, _⟩
    · exact .base (.tup h)
    · exact .fTuple h
    · exact .kTuple l c
theorem ty_tup {a : Addr} {xs : List V} (h : SqT K H a xs) : TyX K H (.ref a) (.type "tuple") := by
  rcases h with (h | ⟨o, h⟩) | ⟨o, its, n, l, c, _⟩
  · exact .base (.tup h)
  · exact .fTuple h
  · exact .kTuple l c
theorem kT : ∀ d : PyData, PySem.W.kitOne K (.type (tyN d)) (.type "tuple") = some (isT d)
  | .none => kit_ty (by decide +kernel : kitB "NoneType" "tuple" = some false)
  | .bool _ => kit_ty (by decide +kernel : kitB "bool" "tuple" = some false)
  | .int _ => kit_ty (by decide +kernel : kitB "int" "tuple" = some false)
  | .str _ => kit_ty (by decide +kernel : kitB "str" "tuple" = some false)
  | .list _ => kit_ty (by decide +kernel : kitB "list" "tuple" = some false)
  | .tuple _ => kit_ty (by decide +kernel : kitB "tuple" "tuple" = some true)
  | .dict _ => kit_ty (by decide +kernel : kitB "dict" "tuple" = some false)
theorem kL : ∀ d : PyData, PySem.W.kitOne K (.type (tyN d)) (.type "list") = some (isL d)
  | .none => kit_ty (by decide +kernel : kitB "NoneType" "list" = some false)
  | .bool _ => kit_ty (by decide +kernel : kitB "bool" "list" = some false)
  | .int _ => kit_ty (by decide +kernel : kitB "int" "list" = some false)
  | .str _ => kit_ty (by decide +kernel : kitB "str" "list" = some false)
  | .list _ => kit_ty (by decide +kernel : kitB "list" "list" = some true)
  | .tuple _ => kit_ty (by decide +kernel : kitB "tuple" "list" = some false)
  | .dict _ => kit_ty (by decide +kernel : kitB "dict" "list" = some false)
theorem kB : ∀ d : PyData, PySem.W.kitOne K (.type (tyN d)) (.type "bool") = some (isB d)
  | .none => kit_ty (by decide +kernel : kitB "NoneType" "bool" = some false)
  | .bool _ => kit_ty (by decide +kernel : kitB "bool" "bool" = some true)
  | .int _ => kit_ty (by decide +kernel : kitB "int" "bool" = some false)
  | .str _ => kit_ty (by decide +kernel : kitB "str" "bool" = some false)
  | .list _ => kit_ty (by decide +kernel : kitB "list" "bool" = some false)
  | .tuple _ => kit_ty (by decide +kernel : kitB "tuple" "bool" = some false)
  | .dict _ => kit_ty (by decide +kernel : kitB "dict" "bool" = some false)
theorem kTL (d : PyData) : PySem.W.kitAny K (.type (tyN d)) [.type "tuple", .type "list"] = some (isT d || isL d) := by
  refine kitAny_cons (kT d) (fun e => ?_) (fun e => by rw [e]; rfl)
  refine kitAny_cons (kL d) (fun e2 => ?_) (fun e2 => by rw [e, e2]; rfl)
  rw [e, e2]
  exact kitAny_nil
end
def spLike (K : PySem.W.Frag) (n : Nat) : Sp := fun vs H Q _ => ∃ (x y : V) (d : PyData), vs = [x, y] ∧ Dp K H x d ∧ Dp K H y d ∧ okD n d = true ∧ ∀ H', Same H H' → Q (.bl true) H'
/-! ### rectangles -/
structure R where
  l : Int
  t : Int
  r : Int
  b : Int
def R.vs (p : R) : List V := [.int p.l, .int p.t, .int p.r, .int p.b]
def R.ds (p : R) : List PyData := [.int p.l, .int p.t, .int p.r, .int p.b]
def R.good (p : R) : Prop := -1000000000 ≤ p.l ∧ p.l ≤ 1000000000 ∧ -1000000000 ≤ p.t ∧ p.t ≤ 1000000000 ∧ -1000000000 ≤ p.r ∧ p.r ≤ 1000000000 ∧ -1000000000 ≤ p.b ∧ p.b ≤ 1000000000 ∧ p.l < p.r ∧ p.t < p.b
def R.has (p : R) (x y : Int) : Prop := p.l ≤ x ∧ x < p.r ∧ p.t ≤ y ∧ y < p.b
theorem R.dp {K : PySem.W.Frag} {H : Hp} (p : R) : DpAll K H p.vs p.ds := .cons (.int _) (.cons (.int _) (.cons (.int _) (.cons (.int _) .nil)))
def spRect : Sp := fun vs H Q _ => ∃ (b s : Addr) (c : Int), vs = [.ref b, .int c] ∧ Bag b s H ∧ 1 ≤ c ∧ c ≤ 100000000 ∧
  ∀ (x y x2 y2 : Int) H' p, Keep b H H' → Bag b s H' → H p = none → H' p = some (.tup (R.vs ⟨c * x, c * y, c * x2, c * y2⟩)) → -4 ≤ x → x ≤ 4 → -4 ≤ y → y ≤ 4 → x < x2 → x2 ≤ x + 4 → y < y2 → y2 ≤ y + 4 → Q (.ref p) H'
end RK
namespace RK
open PySem PySem.Spec PyProof.Rows L2
def topS (i : Nat) : Stmt := PySem.Challenge.pw_raisekeys_k01_rectangles.main.body.getD i (.Pass ⟨0, 0, 0, 0⟩)
abbrev s_is_rectangle : Stmt := topS 2
abbrev s_has_four_numbers : Stmt := topS 3
abbrev s_covers : Stmt := topS 4
abbrev s_common : Stmt := topS 5
abbrev s_bag : Stmt := topS 7
abbrev s_pull : Stmt := topS 8
abbrev s_like : Stmt := topS 9
abbrev s_rectangle : Stmt := topS 10
abbrev s_tuple_right : Stmt := topS 11
abbrev s_law : Stmt := topS 12
theorem sc_is_rectangle : FnScope ["rectangle", "left", "top", "right", "bottom", "side"] ["rectangle"] (defScope s_is_rectangle) := ⟨rfl, rfl, rfl, by decide +kernel, rfl, by decide +kernel, by decide +kernel⟩
theorem sc_has_four_numbers : FnScope ["value", "side"] ["value"] (defScope s_has_four_numbers) := ⟨rfl, rfl, rfl, by decide +kernel, rfl, by decide +kernel, by decide +kernel⟩
theorem sc_covers : FnScope ["rectangle", "x", "y", "left", "top", "right", "bottom"] ["rectangle", "x", "y"] (defScope s_covers) := ⟨rfl, rfl, rfl, by decide +kernel, rfl, by decide +kernel, by decide +kernel⟩
theorem sc_common : FnScope ["one", "other", "left", "top", "right", "bottom"] ["one", "other"] (defScope s_common) := ⟨rfl, rfl, rfl, by decide +kernel, rfl, by decide +kernel, by decide +kernel⟩
theorem sc_bag : FnScope ["_law_script", "_law_salt", "_law_cell"] ["_law_script"] (defScope s_bag) := ⟨rfl, rfl, rfl, by decide +kernel, rfl, by decide +kernel, by decide +kernel⟩
theorem sc_pull : FnScope ["_law_bag_here", "_law_amount", "_law_cell", "_law_got", "_law_seed"] ["_law_bag_here", "_law_amount"] (defScope s_pull) := ⟨rfl, rfl, rfl, by decide +kernel, rfl, by decide +kernel, by decide +kernel⟩
theorem sc_like : FnScope ["_law_found", "_law_due", "_law_k"] ["_law_found", "_law_due"] (defScope s_like) := ⟨rfl, rfl, rfl, by decide +kernel, rfl, by decide +kernel, by decide +kernel⟩
theorem sc_rectangle : FnScope ["_law_bag_here", "_law_scale", "_law_left", "_law_top", "_law_right", "_law_bottom"] ["_law_bag_here", "_law_scale"] (defScope s_rectangle) := ⟨rfl, rfl, rfl, by decide +kernel, rfl, by decide +kernel, by decide +kernel⟩
theorem sc_tuple_right : FnScope ["_law_rect", "_law_due"] ["_law_rect", "_law_due"] (defScope s_tuple_right) := ⟨rfl, rfl, rfl, by decide +kernel, rfl, by decide +kernel, by decide +kernel⟩
theorem sc_law : FnScope ["_law_script", "_law_bag_here", "_law_turn", "_law_one", "_law_other", "_law_cells", "_law_x_z", "_law_y_z", "_law_both", "_law_inside", "_law_here", "_law_left", "_law_top", "_law_right", "_law_bottom", "_law_good", "_law_bad", "_law_rows", "_law_rect"] ["_law_script"] (defScope s_law) := ⟨rfl, rfl, rfl, by decide +kernel, rfl, by decide +kernel, by decide +kernel⟩
def kwG_kb_is_rectangle_0_rectangle {α : Type} : List α → List α → List α
  | [], [c0] => [c0]
  | _, _ => []
def kwG_kb_covers_0_y_x_rectangle {α : Type} : List α → List α → List α
  | [], [c0, c1, c2] => [c2, c1, c0]
  | _, _ => []
structure Txt (K : PySem.W.Frag) (mg : Str → Option Value) where
  f_is_rectangle : Addr
  fd_is_rectangle : FuncData
  F_is_rectangle : Fun K "is_rectangle" "is_rectangle" s_is_rectangle f_is_rectangle fd_is_rectangle
  g_is_rectangle : mg "is_rectangle" = some (.ref f_is_rectangle)
  b_is_rectangle : Binds K fd_is_rectangle ["rectangle"] []
  f_has_four_numbers : Addr
  fd_has_four_numbers : FuncData
  F_has_four_numbers : Fun K "has_four_numbers" "has_four_numbers" s_has_four_numbers f_has_four_numbers fd_has_four_numbers
  g_has_four_numbers : mg "has_four_numbers" = some (.ref f_has_four_numbers)
  b_has_four_numbers : Binds K fd_has_four_numbers ["value"] []
  f_covers : Addr
  fd_covers : FuncData
  F_covers : Fun K "covers" "covers" s_covers f_covers fd_covers
  g_covers : mg "covers" = some (.ref f_covers)
  b_covers : Binds K fd_covers ["rectangle", "x", "y"] []
  f_common : Addr
  fd_common : FuncData
  F_common : Fun K "common" "common" s_common f_common fd_common
  g_common : mg "common" = some (.ref f_common)
  b_common : Binds K fd_common ["one", "other"] []
  f_bag : Addr
  fd_bag : FuncData
  F_bag : Fun K "_law_bag" "_law_bag" s_bag f_bag fd_bag
  g_bag : mg "_law_bag" = some (.ref f_bag)
  b_bag : Binds K fd_bag ["_law_script"] []
  f_pull : Addr
  fd_pull : FuncData
  F_pull : Fun K "_law_pull" "_law_pull" s_pull f_pull fd_pull
  g_pull : mg "_law_pull" = some (.ref f_pull)
  b_pull : Binds K fd_pull ["_law_bag_here", "_law_amount"] []
  f_like : Addr
  fd_like : FuncData
  F_like : Fun K "_law_like" "_law_like" s_like f_like fd_like
  g_like : mg "_law_like" = some (.ref f_like)
  b_like : Binds K fd_like ["_law_found", "_law_due"] []
  f_rectangle : Addr
  fd_rectangle : FuncData
  F_rectangle : Fun K "_law_rectangle" "_law_rectangle" s_rectangle f_rectangle fd_rectangle
  g_rectangle : mg "_law_rectangle" = some (.ref f_rectangle)
  b_rectangle : Binds K fd_rectangle ["_law_bag_here", "_law_scale"] []
  f_tuple_right : Addr
  fd_tuple_right : FuncData
  F_tuple_right : Fun K "_law_tuple_right" "_law_tuple_right" s_tuple_right f_tuple_right fd_tuple_right
  g_tuple_right : mg "_law_tuple_right" = some (.ref f_tuple_right)
  b_tuple_right : Binds K fd_tuple_right ["_law_rect", "_law_due"] []
  f_law : Addr
  fd_law : FuncData
  F_law : Fun K "law" "law" s_law f_law fd_law
  g_law : mg "law" = some (.ref f_law)
  b_law : Binds K fd_law ["_law_script"] []
  kb_is_rectangle_0_rectangle : KBinds K fd_is_rectangle ["rectangle"] ["rectangle"] (kwG_kb_is_rectangle_0_rectangle (α := Value)) (kwG_kb_is_rectangle_0_rectangle (α := V))
  kb_covers_0_y_x_rectangle : KBinds K fd_covers ["rectangle", "x", "y"] ["y", "x", "rectangle"] (kwG_kb_covers_0_y_x_rectangle (α := Value)) (kwG_kb_covers_0_y_x_rectangle (α := V))
  t_MOST_COORDINATE : Tok
  c_MOST_COORDINATE : mg "MOST_COORDINATE" = some (.int 1000000000 t_MOST_COORDINATE)
  m_all : mg "all" = none
  m_bool : mg "bool" = none
  m_int : mg "int" = none
  m_isinstance : mg "isinstance" = none
  m_len : mg "len" = none
  m_list : mg "list" = none
  m_max : mg "max" = none
  m_min : mg "min" = none
  m_range : mg "range" = none
  m_tuple : mg "tuple" = none
section
variable {P : Program} {w : World} {K : PySem.W.Frag} {mg : Str → Option Value} {base : Heap}
theorem ok_bag (T : Txt K mg) {k : Nat} : FnOk P w K mg base CX0 (k + 1) T.f_bag T.fd_bag ["_law_script"] (spBag K) := by
  refine T.F_bag.ok sc_bag (fun vs H Q E h => ?_) (fun cdv A outer s H vs Q E hr h => ?_)
  · obtain ⟨a, ns, rfl, _⟩ := h
    rfl
  · obtain ⟨a, ns, rfl, hS, hlen, q⟩ := h
    refine ⟨_, (pss_cons (ps_set (i := 1) sc_bag.nd rfl (.inl rfl) pe_int)
      (pss_cons (ps_for PassesOwn.never rfl (pi_list (pe_slice (r := rSlL K) sl_list (pv 0) po_none (po_some pe_int))) (pg_name (i := 2) sc_bag.nd rfl (.inl rfl)) (pss_one (ps_set (i := 1) sc_bag.nd rfl (.inl rfl) (pe_op op_mod (pe_op op_add (pe_op op_add (pe_op op_mul (pv 1) pe_int) (pe_op op_mod (pv 2) pe_int)) pe_int) pe_int))))
      (pss_one (ps_ret (pe_lst (pa_cons (pe_callTy (T := "list") (r := RK.rListQ K) RK.call_listQ (by rfl) T.m_list (by decide +kernel) (pa_cons (pe_slice (r := rSlL K) sl_list (pv 0) po_none (po_some pe_int)) pa_nil)) (pa_cons pe_int (pa_cons pe_int (pa_cons (pv 1) pa_nil))))))))), ?_⟩
    refine ⟨.ref a, rfl, 63, rfl, a, _, rfl, hS, fun p np => ?_⟩
    rw [cut63 ns hlen]
    have s1 : Same H (upd H p (.lst (ns.map V.int))) := same_new np _
    refine ⟨p, rfl, ⟨_, .inl (.inl upd_same)⟩, for_list (xs := ns.map V.int) (fun _ σ H' => ∃ z y2, σ = [some (.ref a), some (.int z), y2] ∧ 0 ≤ z ∧ z < 2147483647 ∧ H' = upd H p (.lst (ns.map V.int))) ⟨9489, none, rfl, by decide, by decide, rfl⟩ ?_ ?_ ?_⟩
    · rintro i σ H' _ ⟨z, y2, rfl, _, _, rfl⟩
      exact .inl (.inl upd_same)
    · rintro i x σ H' hx ⟨z, y2, rfl, z0, z1, rfl⟩
      rw [List.getElem?_map] at hx
      obtain ⟨c, hc, rfl⟩ := Option.map_eq_some_iff.mp hx
      refine ⟨.int z, rfl, _, _, rfl, rfl, .inl ⟨by omega, by omega⟩, .int c, rfl, _, _, rfl, rfl, (show (0 : Int) < 2147483587 by decide), _, _, rfl, rfl, _, _, rfl, rfl, _, _, rfl, rfl, (show (0 : Int) < 2147483647 by decide), _, _, rfl, Int.emod_nonneg _ (by decide), Int.emod_lt_of_pos _ (by decide), rfl⟩
    · rintro σ H' ⟨z, y2, rfl, z0, z1, rfl⟩
      refine ⟨.ref a, rfl, 63, rfl, a, _, rfl, s1.seq hS, fun p2 np2 => ?_⟩
      rw [cut63 ns hlen]
      have s2 := same_new np2 (.lst (ns.map V.int))
      refine ⟨p2, _, rfl, .inl (.inl (.inl upd_same)), fun l nl => ?_⟩
      have s3 := same_new nl (.lst (ns.map V.int))
      refine ⟨.int z, rfl, (by show 4 ≤ sizeLine; decide), fun b nb => ?_⟩
      have s4 := same_new nb (.lst [.ref l, .int 0, .int 0, .int z])
      have st : Same H _ := ((s1.trans s2).trans s3).trans s4
      refine q _ b l st (((s1.trans s2).trans s3).free nb) ((s1.trans s2).free nl) ⟨ns, 0, 0, z, upd_same, s4 _ _ upd_same, ne_of_none upd_same nb, Nat.zero_le _, hlen, by decide, z0, z1⟩
theorem ok_pull (T : Txt K mg) {k : Nat} : FnOk P w K mg base CX0 (k + 1) T.f_pull T.fd_pull ["_law_bag_here", "_law_amount"] spPull := by
  refine T.F_pull.ok sc_pull (fun vs H Q E h => ?_) (fun cdv A outer s H vs Q E hr h => ?_)
  · obtain ⟨b, s, n, rfl, _⟩ := h
    rfl
  · obtain ⟨b, s, n, rfl, B, n1, n2, q⟩ := h
    obtain ⟨ns, i, big, salt, B⟩ := B
    refine ⟨_, (C8.pss_cut (ps_if (PW.pt (pw_and (pt_cmpR op_eq (pe_ix (r := rIxL K) ix_list (pv 0) pe_int (fun _ _ => rfl)) pe_int (nomark _)) (pw_and1 (pt_cmpR op_lt (pe_ix (r := rIxL K) ix_list (pv 0) pe_int (fun _ _ => rfl)) (pe_callB (id := "len") (r := RK.rLenQ K) RK.call_lenQ (by rfl) T.m_len (by decide +kernel) (pa_cons (pe_ix (r := rIxL K) ix_list (pv 0) pe_int (fun _ _ => rfl)) pa_nil)) (nomark _))))) (pss_cons (ps_set (i := 2) sc_pull.nd rfl (.inl rfl) (pe_ix (r := rIxL K) ix_list (pe_ix (r := rIxL K) ix_list (pv 0) pe_int (fun _ _ => rfl)) (pe_ix (r := rIxL K) ix_list (pv 0) pe_int (fun _ _ => rfl)) (fun _ _ => rfl)))
      (pss_cons (ps_asg (pe_op op_add (pe_ix (r := rIxL K) ix_list (pv 0) pe_int (fun _ _ => rfl)) pe_int) (pg_sub (pv 0) pe_int set_list))
      (pss_one (ps_if (pt_cmpR op_ge (pv 2) (pe_op op_pow pe_int pe_int) (nomark _)) (pss_one (ps_asg (pv 2) (pg_sub (pv 0) pe_int set_list))) (pss_one (ps_asg (pe_op op_mod (pe_op op_add (pe_op op_add (pe_op op_mul (pe_ix (r := rIxL K) ix_list (pv 0) pe_int (fun _ _ => rfl)) pe_int) (pe_op op_mul (pe_op op_mod (pv 2) pe_int) pe_int)) pe_int) pe_int) (pg_sub (pv 0) pe_int set_list))))))) pss_nil)
      (pss_cons (ps_if (pt_cmpR op_gt (pe_ix (r := rIxL K) ix_list (pv 0) pe_int (fun _ _ => rfl)) pe_int (nomark _)) (pss_cons (ps_set (i := 3) sc_pull.nd rfl (.inl rfl) (pe_op op_mod (pe_ix (r := rIxL K) ix_list (pv 0) pe_int (fun _ _ => rfl)) (pv 1)))
      (pss_cons (ps_asg (pe_op op_fdiv (pe_ix (r := rIxL K) ix_list (pv 0) pe_int (fun _ _ => rfl)) (pv 1)) (pg_sub (pv 0) pe_int set_list))
      (pss_one (ps_ret (pv 3))))) pss_nil)
      (pss_cons (ps_set (i := 4) sc_pull.nd rfl (.inl rfl) (pe_ix (r := rIxL K) ix_list (pv 0) pe_int (fun _ _ => rfl)))
      (pss_cons (ps_asg (pe_op op_mod (pe_op op_add (pe_op op_add (pe_op op_mul (pv 4) (pv 4)) (pe_op op_mul (pv 4) pe_int)) pe_int) pe_int) (pg_sub (pv 0) pe_int set_list))
      (pss_one (ps_ret (pe_op op_mod (pe_op op_add (pe_op op_fdiv (pe_ix (r := rIxL K) ix_list (pv 0) pe_int (fun _ _ => rfl)) pe_int) (pe_op op_mul (pe_op op_mod (pe_ix (r := rIxL K) ix_list (pv 0) pe_int (fun _ _ => rfl)) pe_int) pe_int)) (pv 1)))))))), ?_⟩
    refine ⟨fun σ H' => ∃ y2, σ = [some (.ref b), some (.int n), y2, none, none] ∧ Keep b H H' ∧ ∃ i big salt, BagC H' b s ns i big salt, ?_, ?_⟩
    · -- the first if
      refine ⟨.ref b, rfl, b, _, 2, _, rfl, rfl, SqL.of B.hb, at2, rfl, _, rfl, ite2 (fun c => ?_) (fun c => ?_)⟩
      · refine ⟨.ref b, rfl, b, _, 1, _, rfl, rfl, SqL.of B.hb, at1, .ref b, rfl, b, _, 0, _, rfl, rfl, SqL.of B.hb, at0, s, _, rfl, .inl (SqL.of B.hs), _, _, rfl, rfl, _, rfl, ite2 (fun c2 => ?_) (fun c2 => ?_)⟩
        · have hi : i < ns.length := by
            have := of_decide_eq_true c2
            rw [List.length_map] at this
            omega
          have g : (ns.map V.int)[i]? = some (.int ns[i]) := by
            rw [List.getElem?_map, List.getElem?_eq_getElem hi]
            rfl
          refine ⟨.ref b, rfl, b, _, 0, _, rfl, rfl, SqL.of B.hb, at0, .ref b, rfl, b, _, 1, _, rfl, rfl, SqL.of B.hb, at1, s, _, _, _, rfl, rfl, SqL.of B.hs, atI_nat g, ?_⟩
          refine ⟨.ref b, rfl, b, _, 1, _, rfl, rfl, SqL.of B.hb, at1, _, _, rfl, rfl, .ref b, rfl, b, _, 1, 1, rfl, rfl, B.hb, rfl, ?_⟩
          have k1 : Keep b H (upd H b (.lst [.ref s, .int (↑i + 1), .int big, .int salt])) := (Keep.refl b H).upd
          have hs1 : (upd H b (.lst [.ref s, .int (↑i + 1), .int big, .int salt])) s = some (.lst (ns.map V.int)) := by rw [upd_ne B.ne]; exact B.hs
          refine ⟨.int ns[i], rfl, _, _, rfl, rfl, ⟨by decide, by decide, by decide⟩, _, _, rfl, rfl, _, rfl, ite2 (fun c3 => ?_) (fun c3 => ?_)⟩
          · have hc : 0 ≤ ns[i] := by
              have h3 := of_decide_eq_true c3
              have h4 : ((10 : Int) ^ (18 : Int).toNat) = 1000000000000000000 := by decide
              rw [h4] at h3
              omega
            refine ⟨.int ns[i], rfl, .ref b, rfl, b, _, 2, 2, rfl, rfl, upd_same, rfl, ?_⟩
            refine ⟨_, rfl, k1.upd, i + 1, ns[i], salt, ⟨?_, ?_, B.ne, hi, B.hn, hc, B.h1, B.h2⟩⟩
            · rw [upd_same]; rfl
            · rw [upd_ne B.ne]; exact hs1
          · refine ⟨.ref b, rfl, b, _, 3, _, rfl, rfl, SqL.of upd_same, at3, _, _, rfl, rfl, .inr ⟨by decide, by decide⟩, .int ns[i], rfl, _, _, rfl, rfl, (show (0 : Int) < 2147483587 by decide), _, _, rfl, rfl, .inr ⟨by decide, by decide⟩, _, _, rfl, rfl, _, _, rfl, rfl, _, _, rfl, rfl, (show (0 : Int) < 2147483647 by decide), .ref b, rfl, b, _, 3, 3, rfl, rfl, upd_same, rfl, ?_⟩
            refine ⟨_, rfl, k1.upd, i + 1, big, (salt * 40692 + ns[i] % 2147483587 * 48271 + 7) % 2147483647, ⟨?_, ?_, B.ne, hi, B.hn, B.h0, Int.emod_nonneg _ (show (2147483647 : Int) ≠ 0 by decide), Int.emod_lt_of_pos _ (show (0 : Int) < 2147483647 by decide)⟩⟩
            · rw [upd_same]; rfl
            · rw [upd_ne B.ne]; exact hs1
        · exact ⟨_, rfl, Keep.refl b H, i, big, salt, B⟩
      · exact ⟨_, rfl, Keep.refl b H, i, big, salt, B⟩
    · rintro σ H1 ⟨y2, rfl, k1, i, big, salt, B⟩
      refine ⟨.ref b, rfl, b, _, 2, _, rfl, rfl, SqL.of B.hb, at2, _, _, rfl, rfl, _, rfl, ite2 (fun c => ?_) (fun c => ?_)⟩
      · refine ⟨.ref b, rfl, b, _, 2, _, rfl, rfl, SqL.of B.hb, at2, .int n, rfl, _, _, rfl, rfl, (show (0 : Int) < n by omega), .ref b, rfl, b, _, 2, _, rfl, rfl, SqL.of B.hb, at2, .int n, rfl, _, _, rfl, rfl, ⟨(show (0 : Int) < n by omega), (show n < 1073741824 by omega)⟩, .ref b, rfl, b, _, 2, 2, rfl, rfl, B.hb, rfl, .int (big % n), rfl, ?_⟩
        refine q _ _ (Int.emod_nonneg _ (by omega)) (Int.emod_lt_of_pos _ (by omega)) k1.upd ⟨ns, i, big / n, salt, ?_, ?_, B.ne, B.hi, B.hn, Int.ediv_nonneg B.h0 (by omega), B.h1, B.h2⟩
        · rw [upd_same]; rfl
        · rw [upd_ne B.ne]; exact B.hs
      · have h1 := B.h1
        have h2 := B.h2
        refine ⟨.ref b, rfl, b, _, 3, _, rfl, rfl, SqL.of B.hb, at3, .int salt, rfl, .int salt, rfl, _, _, rfl, rfl, .inl ⟨by omega, by omega⟩, .int salt, rfl, _, _, rfl, rfl, .inl ⟨by omega, by omega⟩, _, _, rfl, rfl, _, _, rfl, rfl, _, _, rfl, rfl, (show (0 : Int) < 2147483647 by decide), .ref b, rfl, b, _, 3, 3, rfl, rfl, B.hb, rfl, ?_⟩
        refine ⟨.ref b, rfl, b, _, 3, _, rfl, rfl, SqL.of upd_same, at3, _, _, rfl, rfl, ⟨(show (0 : Int) < 89 by decide), (show (89 : Int) < 1073741824 by decide)⟩, .ref b, rfl, b, _, 3, _, rfl, rfl, SqL.of upd_same, at3, _, _, rfl, rfl, (show (0 : Int) < 8191 by decide), _, _, rfl, rfl, .inr ⟨by decide, by decide⟩, _, _, rfl, rfl, .int n, rfl, _, _, rfl, rfl, (show (0 : Int) < n by omega), ?_⟩
        refine q _ _ (Int.emod_nonneg _ (by omega)) (Int.emod_lt_of_pos _ (by omega)) k1.upd ⟨ns, i, big, (salt * salt + salt * 69621 + 1013904223) % 2147483647, ?_, ?_, B.ne, B.hi, B.hn, B.h0, Int.emod_nonneg _ (show (2147483647 : Int) ≠ 0 by decide), Int.emod_lt_of_pos _ (show (0 : Int) < 2147483647 by decide)⟩
        · rw [upd_same]; rfl
        · rw [upd_ne B.ne]; exact B.hs
theorem like_all (T : Txt K mg) {k : Nat} : ∀ n : Nat, FnOk P w K mg base CX0 (k + n + 1) T.f_like T.fd_like ["_law_found", "_law_due"] (spLike K n) := by
  intro n
  induction n with
  | zero =>
    refine T.F_like.ok sc_like (fun vs H Q E h => ?_) (fun cdv A outer s H vs Q E hr h => ?_)
    · obtain ⟨x, y, d, rfl, _⟩ := h
      rfl
    · obtain ⟨x, y, d, rfl, hx, hy, ok, q⟩ := h
      have ok : leafD d = true := ok
      have G : FnOk P w K mg base CX0 0 T.f_like T.fd_like ["_law_found", "_law_due"] (fun _ _ _ _ => False) := ⟨fun _ _ _ _ h => h.elim, fun _ _ _ _ _ _ _ _ _ _ _ _ _ h => h.elim⟩
      have hr : Room 0 _ := hr.mono (Nat.zero_le _)
      refine ⟨_, (pss_cons (ps_if (PW.pt (pw_or (pt_cmpR op_ne (pe_callB (id := "isinstance") (r := rIsi K) call_isi (by rfl) T.m_isinstance (by decide +kernel) (pa_cons (pv 1) (pa_cons (pe_bltn (v := .ty "tuple") (by rfl) T.m_tuple (by decide +kernel) rfl) pa_nil))) (pe_callB (id := "isinstance") (r := rIsi K) call_isi (by rfl) T.m_isinstance (by decide +kernel) (pa_cons (pv 0) (pa_cons (pe_bltn (v := .ty "tuple") (by rfl) T.m_tuple (by decide +kernel) rfl) pa_nil))) (nomark _)) (pw_or1 (pt_cmpR op_ne (pe_callB (id := "isinstance") (r := rIsi K) call_isi (by rfl) T.m_isinstance (by decide +kernel) (pa_cons (pv 1) (pa_cons (pe_bltn (v := .ty "list") (by rfl) T.m_list (by decide +kernel) rfl) pa_nil))) (pe_callB (id := "isinstance") (r := rIsi K) call_isi (by rfl) T.m_isinstance (by decide +kernel) (pa_cons (pv 0) (pa_cons (pe_bltn (v := .ty "list") (by rfl) T.m_list (by decide +kernel) rfl) pa_nil))) (nomark _))))) (pss_one (ps_ret pe_bl)) pss_nil)
      (pss_cons (ps_if (pt_not (pt_val (pe_callB (id := "isinstance") (r := rIsiT K) call_isiT (by rfl) T.m_isinstance (by decide +kernel) (pa_cons (pv 1) (pa_cons (pe_tup (pa_cons (pe_bltn (v := .ty "tuple") (by rfl) T.m_tuple (by decide +kernel) rfl) (pa_cons (pe_bltn (v := .ty "list") (by rfl) T.m_list (by decide +kernel) rfl) pa_nil))) pa_nil))))) (pss_one (ps_ret (pe_and (pe_cmpR op_eq (pe_callB (id := "isinstance") (r := rIsi K) call_isi (by rfl) T.m_isinstance (by decide +kernel) (pa_cons (pv 0) (pa_cons (pe_bltn (v := .ty "bool") (by rfl) T.m_bool (by decide +kernel) rfl) pa_nil))) (pe_callB (id := "isinstance") (r := rIsi K) call_isi (by rfl) T.m_isinstance (by decide +kernel) (pa_cons (pv 1) (pa_cons (pe_bltn (v := .ty "bool") (by rfl) T.m_bool (by decide +kernel) rfl) pa_nil))) (nomark _)) (pe_one (pe_cmpR op_eq (pv 0) (pv 1) (nomark _)))))) pss_nil)
      (pss_one (ps_ret (pe_and (pe_cmpR op_eq (pe_callB (id := "len") (r := RK.rLenQ K) RK.call_lenQ (by rfl) T.m_len (by decide +kernel) (pa_cons (pv 0) pa_nil)) (pe_callB (id := "len") (r := RK.rLenQ K) RK.call_lenQ (by rfl) T.m_len (by decide +kernel) (pa_cons (pv 1) pa_nil)) (nomark _)) (pe_one (pe_callB (id := "all") (r := rAll K) (cr_all rfl) (by rfl) T.m_all (by decide +kernel) (pa_cons (pe_lc (own := [("_law_k", 2)]) (g := gName 2) (tt := tYes) (by rfl) sc_like.nd (pi_range1 (by rfl) T.m_range (pa_cons (pe_callB (id := "len") (r := RK.rLenQ K) RK.call_lenQ (by rfl) T.m_len (by decide +kernel) (pa_cons (pv 1) pa_nil)) pa_nil)) (blkOk_by (own := [("_law_k", 2)]) (N := ["_law_found", "_law_due", "_law_k"]) (sc := defScope s_like) (by decide +kernel)) (fun _ _ _ _ _ => (pg_name (i := 2) sc_like.nd rfl (Or.inl rfl))) (fun _ _ _ _ _ => pts_nil) (fun _ _ _ _ _ => (pe_call G hr (by rfl) T.g_like T.F_like.kp T.b_like .nil pass0 (pa_cons (pe_ix (r := rIx K) ix_seq (pv 0) (pv 2) (fun _ _ => rfl)) (pa_cons (pe_ix (r := rIx K) ix_seq (pv 1) (pv 2) (fun _ _ => rfl)) pa_nil))))) pa_nil)))))))), ?_⟩
      refine ⟨y, rfl, y, .ty "tuple", _, _, isT d, rfl, .ty _, ty_of hy, kT d, x, rfl, x, .ty "tuple", _, _, isT d, rfl, .ty _, ty_of hx, kT d, rfl, _, rfl, iteNS rfl ?_⟩
      refine ⟨y, rfl, y, .ty "list", _, _, isL d, rfl, .ty _, ty_of hy, kL d, x, rfl, x, .ty "list", _, _, isL d, rfl, .ty _, ty_of hx, kL d, rfl, _, rfl, iteNS rfl ?_⟩
      refine ⟨y, rfl, (by show 2 ≤ sizeLine; decide), fun t nt => ?_⟩
      have s1 := same_new nt (.tup [.ty "tuple", .ty "list"])
      refine ⟨y, t, _, _, _, _, rfl, upd_same, .cons (.ty _) (.cons (.ty _) .nil), ty_of (dp_same s1 hy), kTL d, _, rfl, ?_⟩
      have e1 : (isT d || isL d) = false := by cases d <;> first | rfl | cases ok
      rw [e1]
      refine iteT ?_
      refine ⟨x, rfl, x, .ty "bool", _, _, isB d, rfl, .ty _, ty_of (dp_same s1 hx), kB d, y, rfl, y, .ty "bool", _, _, isB d, rfl, .ty _, ty_of (dp_same s1 hy), kB d, rfl, _, rfl, ?_⟩
      rw [decide_eq_true rfl]
      refine iteT ⟨x, rfl, y, rfl, ?_⟩
      have e2 : x = y ∧ scal x y = true := by
        cases hx with
        | non => cases hy; exact ⟨rfl, rfl⟩
        | bl b => cases hy; exact ⟨rfl, rfl⟩
        | int i => cases hy; exact ⟨rfl, rfl⟩
        | str z => cases hy; exact ⟨rfl, rfl⟩
        | lst _ _ => cases ok
        | tup _ _ => cases ok
      refine ⟨e2.2, ?_⟩
      rw [decide_eq_true e2.1]
      exact q _ s1
  | succ n G =>
    refine T.F_like.ok sc_like (fun vs H Q E h => ?_) (fun cdv A outer s H vs Q E hr h => ?_)
    · obtain ⟨x, y, d, rfl, _⟩ := h
      rfl
    · obtain ⟨x, y, d, rfl, hx, hy, ok, q⟩ := h
      refine ⟨_, (pss_cons (ps_if (PW.pt (pw_or (pt_cmpR op_ne (pe_callB (id := "isinstance") (r := rIsi K) call_isi (by rfl) T.m_isinstance (by decide +kernel) (pa_cons (pv 1) (pa_cons (pe_bltn (v := .ty "tuple") (by rfl) T.m_tuple (by decide +kernel) rfl) pa_nil))) (pe_callB (id := "isinstance") (r := rIsi K) call_isi (by rfl) T.m_isinstance (by decide +kernel) (pa_cons (pv 0) (pa_cons (pe_bltn (v := .ty "tuple") (by rfl) T.m_tuple (by decide +kernel) rfl) pa_nil))) (nomark _)) (pw_or1 (pt_cmpR op_ne (pe_callB (id := "isinstance") (r := rIsi K) call_isi (by rfl) T.m_isinstance (by decide +kernel) (pa_cons (pv 1) (pa_cons (pe_bltn (v := .ty "list") (by rfl) T.m_list (by decide +kernel) rfl) pa_nil))) (pe_callB (id := "isinstance") (r := rIsi K) call_isi (by rfl) T.m_isinstance (by decide +kernel) (pa_cons (pv 0) (pa_cons (pe_bltn (v := .ty "list") (by rfl) T.m_list (by decide +kernel) rfl) pa_nil))) (nomark _))))) (pss_one (ps_ret pe_bl)) pss_nil)
      (pss_cons (ps_if (pt_not (pt_val (pe_callB (id := "isinstance") (r := rIsiT K) call_isiT (by rfl) T.m_isinstance (by decide +kernel) (pa_cons (pv 1) (pa_cons (pe_tup (pa_cons (pe_bltn (v := .ty "tuple") (by rfl) T.m_tuple (by decide +kernel) rfl) (pa_cons (pe_bltn (v := .ty "list") (by rfl) T.m_list (by decide +kernel) rfl) pa_nil))) pa_nil))))) (pss_one (ps_ret (pe_and (pe_cmpR op_eq (pe_callB (id := "isinstance") (r := rIsi K) call_isi (by rfl) T.m_isinstance (by decide +kernel) (pa_cons (pv 0) (pa_cons (pe_bltn (v := .ty "bool") (by rfl) T.m_bool (by decide +kernel) rfl) pa_nil))) (pe_callB (id := "isinstance") (r := rIsi K) call_isi (by rfl) T.m_isinstance (by decide +kernel) (pa_cons (pv 1) (pa_cons (pe_bltn (v := .ty "bool") (by rfl) T.m_bool (by decide +kernel) rfl) pa_nil))) (nomark _)) (pe_one (pe_cmpR op_eq (pv 0) (pv 1) (nomark _)))))) pss_nil)
      (pss_one (ps_ret (pe_and (pe_cmpR op_eq (pe_callB (id := "len") (r := RK.rLenQ K) RK.call_lenQ (by rfl) T.m_len (by decide +kernel) (pa_cons (pv 0) pa_nil)) (pe_callB (id := "len") (r := RK.rLenQ K) RK.call_lenQ (by rfl) T.m_len (by decide +kernel) (pa_cons (pv 1) pa_nil)) (nomark _)) (pe_one (pe_callB (id := "all") (r := rAll K) (cr_all rfl) (by rfl) T.m_all (by decide +kernel) (pa_cons (pe_lc (own := [("_law_k", 2)]) (g := gName 2) (tt := tYes) (by rfl) sc_like.nd (pi_range1 (by rfl) T.m_range (pa_cons (pe_callB (id := "len") (r := RK.rLenQ K) RK.call_lenQ (by rfl) T.m_len (by decide +kernel) (pa_cons (pv 1) pa_nil)) pa_nil)) (blkOk_by (own := [("_law_k", 2)]) (N := ["_law_found", "_law_due", "_law_k"]) (sc := defScope s_like) (by decide +kernel)) (fun _ _ _ _ _ => (pg_name (i := 2) sc_like.nd rfl (Or.inl rfl))) (fun _ _ _ _ _ => pts_nil) (fun _ _ _ _ _ => (pe_call G hr (by rfl) T.g_like T.F_like.kp T.b_like .nil pass0 (pa_cons (pe_ix (r := rIx K) ix_seq (pv 0) (pv 2) (fun _ _ => rfl)) (pa_cons (pe_ix (r := rIx K) ix_seq (pv 1) (pv 2) (fun _ _ => rfl)) pa_nil))))) pa_nil)))))))), ?_⟩
      refine ⟨y, rfl, y, .ty "tuple", _, _, isT d, rfl, .ty _, ty_of hy, kT d, x, rfl, x, .ty "tuple", _, _, isT d, rfl, .ty _, ty_of hx, kT d, rfl, _, rfl, iteNS rfl ?_⟩
      refine ⟨y, rfl, y, .ty "list", _, _, isL d, rfl, .ty _, ty_of hy, kL d, x, rfl, x, .ty "list", _, _, isL d, rfl, .ty _, ty_of hx, kL d, rfl, _, rfl, iteNS rfl ?_⟩
      refine ⟨y, rfl, (by show 2 ≤ sizeLine; decide), fun t nt => ?_⟩
      have s1 := same_new nt (.tup [.ty "tuple", .ty "list"])
      refine ⟨y, t, _, _, _, _, rfl, upd_same, .cons (.ty _) (.cons (.ty _) .nil), ty_of (dp_same s1 hy), kTL d, _, rfl, ?_⟩
      by_cases hd : leafD d = true
      · have e1 : (isT d || isL d) = false := by cases d <;> first | rfl | cases hd
        rw [e1]
        refine iteT ?_
        refine ⟨x, rfl, x, .ty "bool", _, _, isB d, rfl, .ty _, ty_of (dp_same s1 hx), kB d, y, rfl, y, .ty "bool", _, _, isB d, rfl, .ty _, ty_of (dp_same s1 hy), kB d, rfl, _, rfl, ?_⟩
        rw [decide_eq_true rfl]
        refine iteT ⟨x, rfl, y, rfl, ?_⟩
        have e2 : x = y ∧ scal x y = true := by
          cases hx with
          | non => cases hy; exact ⟨rfl, rfl⟩
          | bl b => cases hy; exact ⟨rfl, rfl⟩
          | int i => cases hy; exact ⟨rfl, rfl⟩
          | str z => cases hy; exact ⟨rfl, rfl⟩
          | lst _ _ => cases hd
          | tup _ _ => cases hd
        refine ⟨e2.2, ?_⟩
        rw [decide_eq_true e2.1]
        exact q _ s1
      · -- a list or a tuple
        obtain ⟨p1, p2, xs, ys, ds, rfl, rfl, a1, a2, hl, hk, sq1, sq2, e1⟩ : ∃ (p1 p2 : Addr) (xs ys : List V) (ds : List PyData), x = .ref p1 ∧ y = .ref p2 ∧ DpAll K H xs ds ∧ DpAll K H ys ds ∧ ds.length ≤ 1000 ∧ (∀ d' ∈ ds, okD n d' = true) ∧
            (∀ H', Same H H' → SqL K H' p1 xs ∨ SqT K H' p1 xs) ∧ (∀ H', Same H H' → SqL K H' p2 ys ∨ SqT K H' p2 ys) ∧ (isT d || isL d) = true := by
          cases hx with
          | non => exact absurd rfl hd
          | bl b => exact absurd rfl hd
          | int i => exact absurd rfl hd
          | str z => exact absurd rfl hd
          | lst h1 a1 =>
            cases hy with
            | lst h2 a2 =>
              have ok2 := Bool.and_eq_true_iff.mp ok
              exact ⟨_, _, _, _, _, rfl, rfl, a1, a2, of_decide_eq_true ok2.1, List.all_eq_true.mp ok2.2, fun H' e => .inl (e.seq h1), fun H' e => .inl (e.seq h2), rfl⟩
          | tup h1 a1 =>
            cases hy with
            | tup h2 a2 =>
              have ok2 := Bool.and_eq_true_iff.mp ok
              exact ⟨_, _, _, _, _, rfl, rfl, a1, a2, of_decide_eq_true ok2.1, List.all_eq_true.mp ok2.2, fun H' e => .inr (same_tup e h1), fun H' e => .inr (same_tup e h2), rfl⟩
        rw [e1]
        refine iteF ?_
        have l1 := dpAll_len a1
        have l2 := dpAll_len a2
        refine ⟨.ref p1, rfl, p1, xs, rfl, sq1 _ s1, .ref p2, rfl, p2, ys, rfl, sq2 _ s1, rfl, _, rfl, ?_⟩
        rw [decide_eq_true (by rw [l1, l2])]
        refine iteT ⟨.ref p2, rfl, p2, ys, rfl, sq2 _ s1, _, rfl, (by omega), (by omega), fun D nD => ?_⟩
        have s2 := same_new nD (.lst [])
        refine lc_range (lo := 0) (n := ((ys.length : Nat) : Int).toNat) (fun i H' => Same H H' ∧ H' D = some (.lst (List.replicate i (.bl true)))) ⟨s1.trans s2, upd_same⟩ (fun i H' hi hp => ?_) (fun H' hp => ?_)
        · obtain ⟨hs, hD⟩ := hp
          have hi : i < ds.length := by omega
          have gd : ds[i]? = some ds[i] := List.getElem?_eq_getElem hi
          obtain ⟨v1, g1, d1⟩ := dpAll_at a1 gd
          obtain ⟨v2, g2, d2⟩ := dpAll_at a2 gd
          have ei : (0 : Int) + (i : Int) = (i : Int) := by omega
          rw [ei]
          have at1' : atI xs (i : Int) = some v1 := atI_nat g1
          have at2' : atI ys (i : Int) = some v2 := atI_nat g2
          refine ⟨rfl, .ref p1, rfl, .int i, rfl, ?_⟩
          have fin : spLike K n [v1, v2] H' (fun y H4 => ∃ acc, H4 D = some (.lst acc) ∧ acc.length < sizeLine ∧ (Same H (upd H4 D (.lst (acc ++ [y]))) ∧ upd H4 D (.lst (acc ++ [y])) D = some (.lst (List.replicate (i + 1) (.bl true))))) E := by
            refine ⟨v1, v2, ds[i], rfl, dp_same hs d1, dp_same hs d2, hk _ (List.getElem_mem hi), fun H4 e4 => ⟨_, e4 _ _ hD, ?_, ?_, ?_⟩⟩
            · rw [List.length_replicate]
              exact szl (by omega)
            · exact fun a o h => by
                rw [upd_ne (ne_of_none (s1 _ _ h) nD)]
                exact e4 _ _ (hs _ _ h)
            · rw [upd_same, List.replicate_succ']
          have two : ∀ (Q2 : VK), (∀ H5, H5 = H' → Q2 v2 H5) → rIx K (.ref p2) (.int i) H' Q2 := fun Q2 q2 => by
            rcases sq2 H' hs with h | h
            · exact .inl ⟨p2, ys, i, v2, rfl, rfl, h, at2', q2 _ rfl⟩
            · exact .inr (.inl ⟨p2, ys, i, v2, rfl, rfl, h, at2', q2 _ rfl⟩)
          rcases sq1 H' hs with h | h
          · exact .inl ⟨p1, xs, i, v1, rfl, rfl, h, at1', .ref p2, rfl, .int i, rfl, two _ fun H5 e5 => by subst e5; exact fin⟩
          · exact .inr (.inl ⟨p1, xs, i, v1, rfl, rfl, h, at1', .ref p2, rfl, .int i, rfl, two _ fun H5 e5 => by subst e5; exact fin⟩)
        · obtain ⟨hs, hD⟩ := hp
          refine ⟨D, List.replicate ((ys.length : Nat) : Int).toNat true, rfl, .inl (.inl ?_), ?_⟩
          · rw [hD, List.map_replicate]
          · rw [show (List.replicate ((ys.length : Nat) : Int).toNat true).all id = true by simp]
            exact q _ hs
theorem ok_like (T : Txt K mg) {k : Nat} : FnOk P w K mg base CX0 (k + 5) T.f_like T.fd_like ["_law_found", "_law_due"] (spLike K 4) := like_all T 4
theorem ok_rectangle (T : Txt K mg) {k : Nat} : FnOk P w K mg base CX0 (k + 2) T.f_rectangle T.fd_rectangle ["_law_bag_here", "_law_scale"] spRect := by
  refine T.F_rectangle.ok sc_rectangle (fun vs H Q E h => ?_) (fun cdv A outer s H vs Q E hr h => ?_)
  · obtain ⟨b, s, c, rfl, _⟩ := h
    rfl
  · obtain ⟨b, s, c, rfl, B, c1, c2, q⟩ := h
    refine ⟨_, (pss_cons (ps_par (i := 2) (j := 3) (by rfl) sc_rectangle.nd rfl rfl (by decide) rfl rfl (pa_cons (pe_op op_sub (pe_call (ok_pull T) hr (by rfl) T.g_pull T.F_pull.kp T.b_pull .nil pass0 (pa_cons (pv 0) (pa_cons pe_int pa_nil))) pe_int) (pa_cons (pe_op op_sub (pe_call (ok_pull T) hr (by rfl) T.g_pull T.F_pull.kp T.b_pull .nil pass0 (pa_cons (pv 0) (pa_cons pe_int pa_nil))) pe_int) pa_nil)) (by rfl))
      (pss_cons (ps_par (i := 4) (j := 5) (by rfl) sc_rectangle.nd rfl rfl (by decide) rfl rfl (pa_cons (pe_op op_add (pe_op op_add (pv 2) pe_int) (pe_call (ok_pull T) hr (by rfl) T.g_pull T.F_pull.kp T.b_pull .nil pass0 (pa_cons (pv 0) (pa_cons pe_int pa_nil)))) (pa_cons (pe_op op_add (pe_op op_add (pv 3) pe_int) (pe_call (ok_pull T) hr (by rfl) T.g_pull T.F_pull.kp T.b_pull .nil pass0 (pa_cons (pv 0) (pa_cons pe_int pa_nil)))) pa_nil)) (by rfl))
      (pss_one (ps_ret (pe_tup (pa_cons (pe_op op_mul (pv 1) (pv 2)) (pa_cons (pe_op op_mul (pv 1) (pv 3)) (pa_cons (pe_op op_mul (pv 1) (pv 4)) (pa_cons (pe_op op_mul (pv 1) (pv 5)) pa_nil))))))))), ?_⟩
    refine ⟨.ref b, rfl, b, s, 9, rfl, B, by decide, by decide, fun r1 H1 a1 a2 k1 B1 => ?_⟩
    refine ⟨_, _, rfl, rfl, .ref b, rfl, b, s, 9, rfl, B1, by decide, by decide, fun r2 H2 a3 a4 k2 B2 => ?_⟩
    refine ⟨_, _, rfl, rfl, _, _, rfl, ?_⟩
    refine ⟨.int (r1 - 4), rfl, _, _, rfl, rfl, .ref b, rfl, b, s, 4, rfl, B2, by decide, by decide, fun r3 H3 a5 a6 k3 B3 => ?_⟩
    refine ⟨_, _, rfl, rfl, .int (r2 - 4), rfl, _, _, rfl, rfl, .ref b, rfl, b, s, 4, rfl, B3, by decide, by decide, fun r4 H4 a7 a8 k4 B4 => ?_⟩
    refine ⟨_, _, rfl, rfl, _, _, rfl, ?_⟩
    have hc : -(2 ^ 64) < c ∧ c < 2 ^ 64 := ⟨by omega, by omega⟩
    refine ⟨.int c, rfl, .int (r1 - 4), rfl, _, _, rfl, rfl, .inl hc, .int c, rfl, .int (r2 - 4), rfl, _, _, rfl, rfl, .inl hc, .int c, rfl, .int (r1 - 4 + 1 + r3), rfl, _, _, rfl, rfl, .inl hc, .int c, rfl, .int (r2 - 4 + 1 + r4), rfl, _, _, rfl, rfl, .inl hc, (by show 4 ≤ sizeLine; decide), fun p np => ?_⟩
    have kk := ((k1.trans k2).trans k3).trans k4
    obtain ⟨ys, hb⟩ := B4.hb
    refine q (r1 - 4) (r2 - 4) (r1 - 4 + 1 + r3) (r2 - 4 + 1 + r4) _ p (kk.trans (Keep.of (same_new np _))) (B4.new np) (kk.free (ne_of_none hb np).symm np) upd_same (by omega) (by omega) (by omega) (by omega) (by omega) (by omega) (by omega) (by omega)
def spCovers (K : PySem.W.Frag) : Sp := fun vs H Q _ => ∃ (a : Addr) (p : R) (x y : Int), vs = [.ref a, .int x, .int y] ∧ SqT K H a p.vs ∧ ∀ b : Bool, (b = true ↔ p.has x y) → Q (.bl b) H
theorem ok_covers (T : Txt K mg) {k : Nat} : FnOk P w K mg base CX0 (k + 1) T.f_covers T.fd_covers ["rectangle", "x", "y"] (spCovers K) := by
  refine T.F_covers.ok sc_covers (fun vs H Q E h => ?_) (fun cdv A outer s H vs Q E hr h => ?_)
  · obtain ⟨a, p, x, y, rfl, _⟩ := h
    rfl
  · obtain ⟨a, p, x, y, rfl, hT, q⟩ := h
    refine ⟨_, (pss_cons (ps_asg (pv 0) (pg_tup (by rfl) (pgs_cons (pg_name (i := 3) sc_covers.nd rfl (.inl rfl)) (pgs_cons (pg_name (i := 4) sc_covers.nd rfl (.inl rfl)) (pgs_cons (pg_name (i := 5) sc_covers.nd rfl (.inl rfl)) (pgs_cons (pg_name (i := 6) sc_covers.nd rfl (.inl rfl)) pgs_nil))))))
      (pss_one (ps_ret (pe_and (pe_chain op_le op_lt (pv 3) (pv 1) (pv 5)) (pe_one (pe_chain op_le op_lt (pv 4) (pv 2) (pv 6))))))), ?_⟩
    refine ⟨.ref a, rfl, a, p.vs, rfl, hT, rfl, .int p.l, _, rfl, .int p.t, _, rfl, .int p.r, _, rfl, .int p.b, _, rfl, rfl, ?_⟩
    refine ⟨.int p.l, rfl, .int x, rfl, _, _, rfl, rfl, _, rfl, ite2 (fun c1 => ?_) (fun c1 => ?_)⟩
    · have c1 := of_decide_eq_true c1
      refine ⟨.int p.r, rfl, _, _, rfl, rfl, _, rfl, ite2 (fun c2 => ?_) (fun c2 => ?_)⟩
      · have c2 := of_decide_eq_true c2
        refine ⟨.int p.t, rfl, .int y, rfl, _, _, rfl, rfl, _, rfl, ite2 (fun c3 => ?_) (fun c3 => ?_)⟩
        · have c3 := of_decide_eq_true c3
          refine ⟨.int p.b, rfl, _, _, rfl, rfl, q _ ?_⟩
          rw [decide_eq_true_eq]
          exact ⟨fun h => ⟨c1, c2, c3, h⟩, fun h => h.2.2.2⟩
        · exact q _ ⟨fun h => Bool.noConfusion h, fun h => absurd (decide_eq_true h.2.2.1) c3⟩
      · exact q _ ⟨fun h => Bool.noConfusion h, fun h => absurd (decide_eq_true h.2.1) c2⟩
    · exact ⟨false, rfl, iteF (q _ ⟨fun h => Bool.noConfusion h, fun h => absurd (decide_eq_true h.1) c1⟩)⟩
def mx (i j : Int) : Int := if j > i then j else i
def mn (i j : Int) : Int := if j < i then j else i
def R.cut (p q : R) : R := ⟨mx p.l q.l, mx p.t q.t, mn p.r q.r, mn p.b q.b⟩
def meet (p q : R) : Option R := if (p.cut q).l < (p.cut q).r ∧ (p.cut q).t < (p.cut q).b then some (p.cut q) else none
/-- v is None, or a tuple of the sides -/
def IsC (K : PySem.W.Frag) (H : Hp) (v : V) : Option R → Prop
  | none => v = .non
  | some p => ∃ a, v = .ref a ∧ SqT K H a p.vs
def spCommon (K : PySem.W.Frag) : Sp := fun vs H Q _ => ∃ (a1 a2 : Addr) (p1 p2 : R), vs = [.ref a1, .ref a2] ∧ SqT K H a1 p1.vs ∧ SqT K H a2 p2.vs ∧ ∀ v H', Same H H' → IsC K H' v (meet p1 p2) → Q v H'
theorem ok_common (T : Txt K mg) {k : Nat} : FnOk P w K mg base CX0 (k + 1) T.f_common T.fd_common ["one", "other"] (spCommon K) := by
  refine T.F_common.ok sc_common (fun vs H Q E h => ?_) (fun cdv A outer s H vs Q E hr h => ?_)
  · obtain ⟨a1, a2, p1, p2, rfl, _⟩ := h
    rfl
  · obtain ⟨a1, a2, p1, p2, rfl, h1, h2, q⟩ := h
    refine ⟨_, (pss_cons (ps_set (i := 2) sc_common.nd rfl (.inl rfl) (pe_callB (id := "max") (call_max2 rfl) (by rfl) T.m_max (by decide +kernel) (pa_cons (pe_ix (r := rIxT K) ix_tup (pv 0) pe_int (fun _ _ => rfl)) (pa_cons (pe_ix (r := rIxT K) ix_tup (pv 1) pe_int (fun _ _ => rfl)) pa_nil))))
      (pss_cons (ps_set (i := 3) sc_common.nd rfl (.inl rfl) (pe_callB (id := "max") (call_max2 rfl) (by rfl) T.m_max (by decide +kernel) (pa_cons (pe_ix (r := rIxT K) ix_tup (pv 0) pe_int (fun _ _ => rfl)) (pa_cons (pe_ix (r := rIxT K) ix_tup (pv 1) pe_int (fun _ _ => rfl)) pa_nil))))
      (pss_cons (ps_set (i := 4) sc_common.nd rfl (.inl rfl) (pe_callB (id := "min") (call_min2 rfl) (by rfl) T.m_min (by decide +kernel) (pa_cons (pe_ix (r := rIxT K) ix_tup (pv 0) pe_int (fun _ _ => rfl)) (pa_cons (pe_ix (r := rIxT K) ix_tup (pv 1) pe_int (fun _ _ => rfl)) pa_nil))))
      (pss_cons (ps_set (i := 5) sc_common.nd rfl (.inl rfl) (pe_callB (id := "min") (call_min2 rfl) (by rfl) T.m_min (by decide +kernel) (pa_cons (pe_ix (r := rIxT K) ix_tup (pv 0) pe_int (fun _ _ => rfl)) (pa_cons (pe_ix (r := rIxT K) ix_tup (pv 1) pe_int (fun _ _ => rfl)) pa_nil))))
      (pss_cons (ps_if (PW.pt (pw_and (pt_cmpR op_lt (pv 2) (pv 4) (nomark _)) (pw_and1 (pt_cmpR op_lt (pv 3) (pv 5) (nomark _))))) (pss_one (ps_ret (pe_tup (pa_cons (pv 2) (pa_cons (pv 3) (pa_cons (pv 4) (pa_cons (pv 5) pa_nil))))))) pss_nil)
      (pss_one (ps_ret pe_non))))))), ?_⟩
    refine ⟨.ref a1, rfl, a1, _, 0, .int p1.l, rfl, rfl, h1, at0, .ref a2, rfl, a2, _, 0, .int p2.l, rfl, rfl, h2, at0, _, _, rfl, ?_⟩
    refine ⟨.ref a1, rfl, a1, _, 1, .int p1.t, rfl, rfl, h1, at1, .ref a2, rfl, a2, _, 1, .int p2.t, rfl, rfl, h2, at1, _, _, rfl, ?_⟩
    refine ⟨.ref a1, rfl, a1, _, 2, .int p1.r, rfl, rfl, h1, at2, .ref a2, rfl, a2, _, 2, .int p2.r, rfl, rfl, h2, at2, _, _, rfl, ?_⟩
    refine ⟨.ref a1, rfl, a1, _, 3, .int p1.b, rfl, rfl, h1, at3, .ref a2, rfl, a2, _, 3, .int p2.b, rfl, rfl, h2, at3, _, _, rfl, ?_⟩
    refine ⟨.int (p1.cut p2).l, rfl, .int (p1.cut p2).r, rfl, _, _, rfl, rfl, _, rfl, ite2 (fun c1 => ?_) (fun c1 => ?_)⟩
    · have c1 := of_decide_eq_true c1
      refine ⟨.int (p1.cut p2).t, rfl, .int (p1.cut p2).b, rfl, _, _, rfl, rfl, _, rfl, ite2 (fun c2 => ?_) (fun c2 => ?_)⟩
      · have c2 := of_decide_eq_true c2
        refine ⟨.int (p1.cut p2).l, rfl, .int (p1.cut p2).t, rfl, .int (p1.cut p2).r, rfl, .int (p1.cut p2).b, rfl, (by show 4 ≤ sizeLine; decide), fun t nt => ?_⟩
        refine q _ _ (same_new nt _) ?_
        unfold meet
        rw [if_pos ⟨c1, c2⟩]
        exact ⟨t, rfl, .inl (.inl upd_same)⟩
      · refine q _ _ (Same.refl _) ?_
        unfold meet
        rw [if_neg fun h => c2 (decide_eq_true h.2)]
        rfl
    · refine iteF (q _ _ (Same.refl _) ?_)
      unfold meet
      rw [if_neg fun h => c1 (decide_eq_true h.1)]
      rfl
def spFour (K : PySem.W.Frag) : Sp := fun vs H Q _ => ∃ (a : Addr) (p : R), vs = [.ref a] ∧ SqT K H a p.vs ∧ ∀ H', Same H H' → Q (.bl true) H'
theorem ok_has_four_numbers (T : Txt K mg) {k : Nat} : FnOk P w K mg base CX0 (k + 1) T.f_has_four_numbers T.fd_has_four_numbers ["value"] (spFour K) := by
  refine T.F_has_four_numbers.ok sc_has_four_numbers (fun vs H Q E h => ?_) (fun cdv A outer s H vs Q E hr h => ?_)
  · obtain ⟨a, p, rfl, _⟩ := h
    rfl
  · obtain ⟨a, p, rfl, hT, q⟩ := h
    refine ⟨_, (pss_cons (ps_if (PW.pt (pw_or (pt_not (pt_val (pe_callB (id := "isinstance") (r := rIsi K) call_isi (by rfl) T.m_isinstance (by decide +kernel) (pa_cons (pv 0) (pa_cons (pe_bltn (v := .ty "tuple") (by rfl) T.m_tuple (by decide +kernel) rfl) pa_nil))))) (pw_or1 (pt_cmpR op_ne (pe_callB (id := "len") (r := RK.rLenQ K) RK.call_lenQ (by rfl) T.m_len (by decide +kernel) (pa_cons (pv 0) pa_nil)) pe_int (nomark _))))) (pss_one (ps_ret pe_bl)) pss_nil)
      (pss_one (ps_ret (pe_callB (id := "all") (r := rAll K) (cr_all rfl) (by rfl) T.m_all (by decide +kernel) (pa_cons (pe_lc (own := [("side", 1)]) (g := gName 1) (tt := tYes) (by rfl) sc_has_four_numbers.nd (pi_tup (pv 0)) (blkOk_by (own := [("side", 1)]) (N := ["value", "side"]) (sc := defScope s_has_four_numbers) (by decide +kernel)) (fun _ _ _ _ _ => (pg_name (i := 1) sc_has_four_numbers.nd rfl (Or.inl rfl))) (fun _ _ _ _ _ => pts_nil) (fun _ _ _ _ _ => (pe_callB (id := "isinstance") (r := rIsi K) call_isi (by rfl) T.m_isinstance (by decide +kernel) (pa_cons (pv 1) (pa_cons (pe_bltn (v := .ty "int") (by rfl) T.m_int (by decide +kernel) rfl) pa_nil))))) pa_nil))))), ?_⟩
    refine ⟨.ref a, rfl, .ref a, .ty "tuple", _, _, true, rfl, .ty _, ty_tup hT, kit_ty (by decide +kernel), _, rfl, iteF ?_⟩
    refine ⟨.ref a, rfl, a, _, rfl, .inr hT, rfl, _, rfl, iteNS rfl ?_⟩
    refine ⟨.ref a, rfl, a, rfl, ⟨_, hT⟩, fun D nD => ?_⟩
    refine lc_tup (xs := p.vs) (fun i H' => H' = upd H D (.lst (List.replicate i (.bl true)))) rfl (fun i H' _ e => ?_) (fun i x H' hx e => ?_) (fun H' e => ?_)
    · subst e
      exact same_tup (same_new nD _) hT
    · subst e
      have hi : i < 4 := (List.getElem?_eq_some_iff.mp hx).1
      obtain ⟨z, rfl⟩ : ∃ z, x = .int z := by
        have hm : x ∈ p.vs := List.mem_of_getElem? hx
        simp only [R.vs, List.mem_cons, List.not_mem_nil, or_false] at hm
        rcases hm with h | h | h | h <;> exact ⟨_, h⟩
      refine ⟨rfl, .int z, rfl, .int z, .ty "int", _, _, true, rfl, .ty _, .base (.int z), kit_ty (by decide +kernel), _, upd_same, ?_, ?_⟩
      · rw [List.length_replicate]
        exact szl (by omega)
      · rw [upd_upd, List.replicate_succ']
    · subst e
      refine ⟨D, [true, true, true, true], rfl, .inl (.inl upd_same), ?_⟩
      exact q _ (same_new nD _)
def inB (s : V) : Bool := match s with
  | .int i => decide (-1000000000 ≤ i) && decide (i ≤ 1000000000)
  | _ => false
def spIsRect (K : PySem.W.Frag) : Sp := fun vs H Q _ => ∃ (a : Addr) (p : R), vs = [.ref a] ∧ SqT K H a p.vs ∧ ∀ (b : Bool) H', Same H H' → (b = true ↔ p.good) → Q (.bl b) H'
theorem ok_is_rectangle (T : Txt K mg) {k : Nat} : FnOk P w K mg base CX0 (k + 2) T.f_is_rectangle T.fd_is_rectangle ["rectangle"] (spIsRect K) := by
  refine T.F_is_rectangle.ok sc_is_rectangle (fun vs H Q E h => ?_) (fun cdv A outer s H vs Q E hr h => ?_)
  · obtain ⟨a, p, rfl, _⟩ := h
    rfl
  · obtain ⟨a, p, rfl, hT, q⟩ := h
    refine ⟨_, (pss_cons (ps_if (pt_not (pt_val (pe_call (ok_has_four_numbers T) hr (by rfl) T.g_has_four_numbers T.F_has_four_numbers.kp T.b_has_four_numbers .nil pass0 (pa_cons (pv 0) pa_nil)))) (pss_one (ps_ret pe_bl)) pss_nil)
      (pss_cons (ps_asg (pv 0) (pg_tup (by rfl) (pgs_cons (pg_name (i := 1) sc_is_rectangle.nd rfl (.inl rfl)) (pgs_cons (pg_name (i := 2) sc_is_rectangle.nd rfl (.inl rfl)) (pgs_cons (pg_name (i := 3) sc_is_rectangle.nd rfl (.inl rfl)) (pgs_cons (pg_name (i := 4) sc_is_rectangle.nd rfl (.inl rfl)) pgs_nil))))))
      (pss_cons (ps_if (pt_not (pt_val (pe_callB (id := "all") (r := rAll K) (cr_all rfl) (by rfl) T.m_all (by decide +kernel) (pa_cons (pe_lc (own := [("side", 5)]) (g := gName 5) (tt := tYes) (by rfl) sc_is_rectangle.nd (pi_tup (pv 0)) (blkOk_by (own := [("side", 5)]) (N := ["rectangle", "left", "top", "right", "bottom", "side"]) (sc := defScope s_is_rectangle) (by decide +kernel)) (fun _ _ _ _ _ => (pg_name (i := 5) sc_is_rectangle.nd rfl (Or.inl rfl))) (fun _ _ _ _ _ => pts_nil) (fun _ _ _ _ _ => (pe_chain op_le op_le (pe_un un_neg (pe_glob (v := .int 1000000000) (by rfl) T.c_MOST_COORDINATE ⟨_, rfl⟩)) (pv 5) (pe_glob (v := .int 1000000000) (by rfl) T.c_MOST_COORDINATE ⟨_, rfl⟩)))) pa_nil)))) (pss_one (ps_ret pe_bl)) pss_nil)
      (pss_one (ps_ret (pe_and (pe_cmpR op_lt (pv 1) (pv 3) (nomark _)) (pe_one (pe_cmpR op_lt (pv 2) (pv 4) (nomark _))))))))), ?_⟩
    refine ⟨.ref a, rfl, a, p, rfl, hT, fun H1 s1 => ⟨_, rfl, iteF ?_⟩⟩
    have hT1 := same_tup s1 hT
    refine ⟨.ref a, rfl, a, p.vs, rfl, hT1, rfl, .int p.l, _, rfl, .int p.t, _, rfl, .int p.r, _, rfl, .int p.b, _, rfl, rfl, ?_⟩
    refine ⟨.ref a, rfl, a, rfl, ⟨_, hT1⟩, fun D nD => ?_⟩
    refine lc_tup (xs := p.vs) (fun i H' => H' = upd H1 D (.lst ((p.vs.take i).map fun v => .bl (inB v)))) rfl (fun i H' _ e => ?_) (fun i x H' hx e => ?_) (fun H' e => ?_)
    · subst e
      exact same_tup (same_new nD _) hT1
    · subst e
      have hi : i < 4 := (List.getElem?_eq_some_iff.mp hx).1
      obtain ⟨z, rfl⟩ : ∃ z, x = .int z := by
        have hm : x ∈ p.vs := List.mem_of_getElem? hx
        simp only [R.vs, List.mem_cons, List.not_mem_nil, or_false] at hm
        rcases hm with h | h | h | h <;> exact ⟨_, h⟩
      have fin : ∀ b : Bool, b = inB (.int z) → ∃ acc, (upd H1 D (.lst ((p.vs.take i).map fun v => V.bl (inB v)))) D = some (.lst acc) ∧ acc.length < sizeLine ∧ upd (upd H1 D (.lst ((p.vs.take i).map fun v => V.bl (inB v)))) D (.lst (acc ++ [.bl b])) = upd H1 D (.lst ((p.vs.take (i + 1)).map fun v => V.bl (inB v))) := fun b hb => by
        refine ⟨_, upd_same, ?_, ?_⟩
        · rw [List.length_map, List.length_take]
          exact szl (by omega)
        · rw [upd_upd, List.take_add_one, hx, List.map_append, hb]
          rfl
      refine ⟨rfl, 1000000000, rfl, .int z, rfl, _, _, rfl, rfl, _, rfl, ite2 (fun c => ?_) (fun c => ?_)⟩
      · have c := of_decide_eq_true c
        refine ⟨_, _, rfl, rfl, fin _ ?_⟩
        show _ = (decide (-1000000000 ≤ z) && decide (z ≤ 1000000000))
        rw [decide_eq_true c, Bool.true_and]
      · refine fin _ ?_
        show _ = (decide (-1000000000 ≤ z) && decide (z ≤ 1000000000))
        rw [decide_eq_false fun h => c (decide_eq_true h), Bool.false_and]
    · subst e
      refine ⟨D, [inB (.int p.l), inB (.int p.t), inB (.int p.r), inB (.int p.b)], rfl, .inl (.inl upd_same), _, rfl, ?_⟩
      have s2 := s1.trans (same_new nD (.lst ((p.vs.take p.vs.length).map fun v => V.bl (inB v))))
      have ea : ([inB (.int p.l), inB (.int p.t), inB (.int p.r), inB (.int p.b)].all id = true) ↔ (-1000000000 ≤ p.l ∧ p.l ≤ 1000000000 ∧ -1000000000 ≤ p.t ∧ p.t ≤ 1000000000 ∧ -1000000000 ≤ p.r ∧ p.r ≤ 1000000000 ∧ -1000000000 ≤ p.b ∧ p.b ≤ 1000000000) := by
        simp only [List.all_cons, List.all_nil, id, inB, Bool.and_true, Bool.and_eq_true, decide_eq_true_eq]
        omega
      refine ite2 (fun c => ?_) (fun c => ?_)
      · refine q _ _ s2 ⟨fun h => Bool.noConfusion h, fun h => ?_⟩
        rw [ea.mpr ⟨h.1, h.2.1, h.2.2.1, h.2.2.2.1, h.2.2.2.2.1, h.2.2.2.2.2.1, h.2.2.2.2.2.2.1, h.2.2.2.2.2.2.2.1⟩] at c
        cases c
      · have c := ea.mp (by cases e : ([inB (.int p.l), inB (.int p.t), inB (.int p.r), inB (.int p.b)].all id) with
          | true => rfl
          | false => exact absurd (by rw [e]; rfl) c)
        refine ⟨.int p.l, rfl, .int p.r, rfl, _, _, rfl, rfl, _, rfl, ite2 (fun c1 => ?_) (fun c1 => ?_)⟩
        · have c1 := of_decide_eq_true c1
          refine ⟨.int p.t, rfl, .int p.b, rfl, _, _, rfl, rfl, q _ _ s2 ?_⟩
          rw [decide_eq_true_eq]
          exact ⟨fun h => ⟨c.1, c.2.1, c.2.2.1, c.2.2.2.1, c.2.2.2.2.1, c.2.2.2.2.2.1, c.2.2.2.2.2.2.1, c.2.2.2.2.2.2.2, c1, h⟩, fun h => h.2.2.2.2.2.2.2.2.2⟩
        · exact q _ _ s2 ⟨fun h => Bool.noConfusion h, fun h => absurd (decide_eq_true h.2.2.2.2.2.2.2.2.1) c1⟩
theorem bool_same {a b : Bool} {p : Prop} (h1 : a = true ↔ p) (h2 : b = true ↔ p) : a = b := by
  cases a <;> cases b <;> simp_all
def spTR (K : PySem.W.Frag) : Sp := fun vs H Q _ => ∃ (a : Addr) (p : R) (due : Bool), vs = [.ref a, .bl due] ∧ SqT K H a p.vs ∧ (due = true ↔ p.good) ∧ ∀ H', Same H H' → Q (.bl true) H'
theorem ok_tuple_right (T : Txt K mg) {k : Nat} : FnOk P w K mg base CX0 (k + 6) T.f_tuple_right T.fd_tuple_right ["_law_rect", "_law_due"] (spTR K) := by
  refine T.F_tuple_right.ok sc_tuple_right (fun vs H Q E h => ?_) (fun cdv A outer s H vs Q E hr h => ?_)
  · obtain ⟨a, p, due, rfl, _⟩ := h
    rfl
  · obtain ⟨a, p, due, rfl, hT, hd, q⟩ := h
    refine ⟨_, (pss_one (ps_ret (pe_call (ok_like T) hr (by rfl) T.g_like T.F_like.kp T.b_like .nil pass0 (pa_cons (pe_lst (pa_cons (pe_call (ok_is_rectangle T) hr (by rfl) T.g_is_rectangle T.F_is_rectangle.kp T.b_is_rectangle .nil pass0 (pa_cons (pv 0) pa_nil)) (pa_cons (RK.pe_callK0 (ok_is_rectangle T) hr (by rfl) T.g_is_rectangle T.F_is_rectangle.kp T.kb_is_rectangle_0_rectangle pass0 (pk_cons (pv 0) pk_nil)) pa_nil))) (pa_cons (pe_lst (pa_cons (pv 1) (pa_cons (pv 1) pa_nil))) pa_nil))))), ?_⟩
    refine ⟨.ref a, rfl, a, p, rfl, hT, fun b1 H1 s1 e1 => ?_⟩
    refine ⟨.ref a, rfl, a, p, rfl, same_tup s1 hT, fun b2 H2 s2 e2 => ?_⟩
    have x1 := bool_same e1 hd
    have x2 := bool_same e2 hd
    subst x1 x2
    refine ⟨(by show 2 ≤ sizeLine; decide), fun l1 n1 => ?_⟩
    refine ⟨.bl b2, rfl, .bl b2, rfl, (by show 2 ≤ sizeLine; decide), fun l2 n2 => ?_⟩
    have s3 := same_new n1 (.lst [.bl b2, .bl b2])
    have s4 := same_new n2 (.lst [.bl b2, .bl b2])
    refine ⟨.ref l1, .ref l2, .list [.bool b2, .bool b2], rfl, .lst (.inl (.inl (s4 _ _ upd_same))) (.cons (.bl _) (.cons (.bl _) .nil)), .lst (.inl (.inl upd_same)) (.cons (.bl _) (.cons (.bl _) .nil)), rfl, fun H' s5 => ?_⟩
    exact q _ ((((s1.trans s2).trans s3).trans s4).trans s5)
theorem mx_le {i j x : Int} : mx i j ≤ x ↔ i ≤ x ∧ j ≤ x := by
  unfold mx
  split <;> omega
theorem lt_mn {i j x : Int} : x < mn i j ↔ x < i ∧ x < j := by
  unfold mn
  split <;> omega
theorem mx_comm (i j : Int) : mx i j = mx j i := by
  unfold mx
  split <;> split <;> omega
theorem mn_comm (i j : Int) : mn i j = mn j i := by
  unfold mn
  split <;> split <;> omega
theorem cut_comm (p q : R) : p.cut q = q.cut p := by
  unfold R.cut
  rw [mx_comm p.l, mx_comm p.t, mn_comm p.r, mn_comm p.b]
theorem meet_comm (p q : R) : meet p q = meet q p := by
  unfold meet
  rw [cut_comm]
theorem cut_has (p q : R) (x y : Int) : (p.cut q).has x y ↔ p.has x y ∧ q.has x y := by
  unfold R.has R.cut
  simp only [mx_le, lt_mn]
  constructor
  · rintro ⟨⟨a, b⟩, ⟨c, d⟩, ⟨e, f⟩, g, h⟩
    exact ⟨⟨a, c, e, g⟩, b, d, f, h⟩
  · rintro ⟨⟨a, c, e, g⟩, b, d, f, h⟩
    exact ⟨⟨a, b⟩, ⟨c, d⟩, ⟨e, f⟩, g, h⟩
theorem meet_some {p q m : R} (h : meet p q = some m) : m = p.cut q ∧ m.l < m.r ∧ m.t < m.b := by
  unfold meet at h
  by_cases c : (p.cut q).l < (p.cut q).r ∧ (p.cut q).t < (p.cut q).b
  · rw [if_pos c] at h
    have e := Option.some.inj h
    subst e
    exact ⟨rfl, c.1, c.2⟩
  · rw [if_neg c] at h
    cases h
theorem meet_none {p q : R} (h : meet p q = none) (x y : Int) : ¬ (p.has x y ∧ q.has x y) := by
  intro hh
  have h2 := (cut_has p q x y).mpr hh
  unfold meet at h
  have c : (p.cut q).l < (p.cut q).r ∧ (p.cut q).t < (p.cut q).b := by
    obtain ⟨a, b, c, d⟩ := h2
    exact ⟨by omega, by omega⟩
  rw [if_pos c] at h
  cases h
/-- the data of None or a tuple of the sides -/
def optD : Option R → PyData
  | none => .none
  | some p => .tuple p.ds
theorem isC_dp {K : PySem.W.Frag} {H : Hp} {v : V} : ∀ {m : Option R}, IsC K H v m → Dp K H v (optD m)
  | none, h => by
    have h : v = .non := h
    subst h
    exact .non
  | some p, h => by
    obtain ⟨a, rfl, hT⟩ := h
    exact .tup hT p.dp
theorem isC_same {K : PySem.W.Frag} {H H' : Hp} {v : V} (e : Same H H') : ∀ {m : Option R}, IsC K H v m → IsC K H' v m
  | none, h => h
  | some p, h => by
    obtain ⟨a, rfl, hT⟩ := h
    exact ⟨a, rfl, same_tup e hT⟩
theorem shaped_opt : ∀ m : Option R, SeqAt.shaped (optD m) = true
  | none => rfl
  | some p => rfl
theorem eqv_opt (m : Option R) : PyData.eqv (optD m) (optD m) = true := SeqAt.eqv_refl _ (SeqAt.canLay_of_shaped (shaped_opt m))
def hasB (p : R) (x y : Int) : Bool := (decide (p.l ≤ x) && decide (x < p.r)) && (decide (p.t ≤ y) && decide (y < p.b))
theorem hasB_iff (p : R) (x y : Int) : hasB p x y = true ↔ p.has x y := by
  unfold hasB R.has
  simp only [Bool.and_eq_true, decide_eq_true_eq]
  exact ⟨fun h => ⟨h.1.1, h.1.2, h.2.1, h.2.2⟩, fun h => ⟨⟨h.1, h.2.1⟩, h.2.2.1, h.2.2.2⟩⟩
def Cells (H : Hp) (L : List V) : Prop := ∀ v ∈ L, ∃ (t : Addr) (x y : Int), v = .ref t ∧ H t = some (.tup [.int x, .int y])
theorem Cells.same {H H' : Hp} {L : List V} (c : Cells H L) (e : Same H H') : Cells H' L := fun v hv => by
  obtain ⟨t, x, y, h1, h2⟩ := c v hv
  exact ⟨t, x, y, h1, e _ _ h2⟩
def spLaw (K : PySem.W.Frag) : Sp := fun vs H Q _ => ∃ (a : Addr) (ns : List Int), vs = [.ref a] ∧ SqL K H a (ns.map V.int) ∧ ns.length ≤ 63 ∧ ∀ H', Q (.bl true) H'
theorem ok_law (T : Txt K mg) : FnOk P w K mg base CX0 7 T.f_law T.fd_law ["_law_script"] (spLaw K) := by
  refine T.F_law.ok sc_law (fun vs H Q E h => ?_) (fun cdv A outer s H vs Q E hr h => ?_)
  · obtain ⟨a, ns, rfl, _⟩ := h
    rfl
  · obtain ⟨a, ns, rfl, hS, hlen, q⟩ := h
    refine ⟨_, (pss_cons (ps_set (i := 1) sc_law.nd rfl (.inl rfl) (pe_call (ok_bag T) hr (by rfl) T.g_bag T.F_bag.kp T.b_bag .nil pass0 (pa_cons (pv 0) pa_nil)))
      (pss_cons (ps_for PassesOwn.never rfl (pi_range1 (by rfl) T.m_range (pa_cons pe_int pa_nil)) (pg_name (i := 2) sc_law.nd rfl (.inl rfl)) (pss_cons (ps_par (i := 3) (j := 4) (by rfl) sc_law.nd rfl rfl (by decide) rfl rfl (pa_cons (pe_call (ok_rectangle T) hr (by rfl) T.g_rectangle T.F_rectangle.kp T.b_rectangle .nil pass0 (pa_cons (pv 1) (pa_cons pe_int pa_nil))) (pa_cons (pe_call (ok_rectangle T) hr (by rfl) T.g_rectangle T.F_rectangle.kp T.b_rectangle .nil pass0 (pa_cons (pv 1) (pa_cons pe_int pa_nil))) pa_nil)) (by rfl))
      (pss_cons (ps_set (i := 5) sc_law.nd rfl (.inl rfl) (pe_lst pa_nil))
      (pss_cons (ps_for PassesOwn.never rfl (pi_range2 (by rfl) T.m_range (pa_cons (pe_un un_neg pe_int) (pa_cons pe_int pa_nil))) (pg_name (i := 6) sc_law.nd rfl (.inr rfl)) (pss_one (ps_set (i := 5) sc_law.nd rfl (.inl rfl) (pe_op op_cat (pv 5) (pe_lc (own := [("_law_y_z", 7)]) (g := gName 7) (tt := tYes) (by rfl) sc_law.nd (pi_range2 (by rfl) T.m_range (pa_cons (pe_un un_neg pe_int) (pa_cons pe_int pa_nil))) (blkOk_by (own := [("_law_y_z", 7)]) (N := ["_law_script", "_law_bag_here", "_law_turn", "_law_one", "_law_other", "_law_cells", "_law_x_z", "_law_y_z", "_law_both", "_law_inside", "_law_here", "_law_left", "_law_top", "_law_right", "_law_bottom", "_law_good", "_law_bad", "_law_rows", "_law_rect"]) (sc := defScope s_law) (by decide +kernel)) (fun _ _ _ _ _ => (pg_name (i := 7) sc_law.nd rfl (Or.inl rfl))) (fun _ _ _ _ _ => pts_nil) (fun _ _ _ _ _ => (pe_tup (pa_cons (pv 6) (pa_cons (pv 7) pa_nil)))))))))
      (pss_cons (ps_set (i := 8) sc_law.nd rfl (.inl rfl) (pe_call (ok_common T) hr (by rfl) T.g_common T.F_common.kp T.b_common .nil pass0 (pa_cons (pv 3) (pa_cons (pv 4) pa_nil))))
      (pss_cons (ps_for PassesOwn.never rfl (pi_list (pv 5)) (pg_tup (by rfl) (pgs_cons (pg_name (i := 6) sc_law.nd rfl (.inr rfl)) (pgs_cons (pg_name (i := 7) sc_law.nd rfl (.inr rfl)) pgs_nil))) (pss_cons (ps_setLc (i := 9) (own := [("_law_rect", 18)]) (g := gName 18) (tt := tYes) (by rfl) sc_law.nd rfl rfl (sw_true rfl rfl rfl (by decide +kernel)) (pi_list (pe_lst (pa_cons (pv 3) (pa_cons (pv 4) pa_nil)))) (blkOk_by (own := [("_law_rect", 18)]) (N := ["_law_script", "_law_bag_here", "_law_turn", "_law_one", "_law_other", "_law_cells", "_law_x_z", "_law_y_z", "_law_both", "_law_inside", "_law_here", "_law_left", "_law_top", "_law_right", "_law_bottom", "_law_good", "_law_bad", "_law_rows", "_law_rect"]) (sc := defScope s_law) (by decide +kernel)) (fun _ _ _ _ _ => (pg_name (i := 18) sc_law.nd rfl (Or.inl rfl))) (fun _ _ _ _ _ => pts_nil) (fun _ _ _ _ _ => (pe_and (pe_chain op_le op_lt (pe_ix (r := rIxT K) ix_tup (pv 18) pe_int (fun _ _ => rfl)) (pv 6) (pe_ix (r := rIxT K) ix_tup (pv 18) pe_int (fun _ _ => rfl))) (pe_one (pe_chain op_le op_lt (pe_ix (r := rIxT K) ix_tup (pv 18) pe_int (fun _ _ => rfl)) (pv 7) (pe_ix (r := rIxT K) ix_tup (pv 18) pe_int (fun _ _ => rfl)))))))
      (pss_cons (ps_if (pt_not (pt_val (pe_call (ok_like T) hr (by rfl) T.g_like T.F_like.kp T.b_like .nil pass0 (pa_cons (pe_lst (pa_cons (pe_call (ok_covers T) hr (by rfl) T.g_covers T.F_covers.kp T.b_covers .nil pass0 (pa_cons (pv 3) (pa_cons (pv 6) (pa_cons (pv 7) pa_nil)))) (pa_cons (RK.pe_callK0 (ok_covers T) hr (by rfl) T.g_covers T.F_covers.kp T.kb_covers_0_y_x_rectangle pass0 (pk_cons (pv 7) (pk_cons (pv 6) (pk_cons (pv 4) pk_nil)))) pa_nil))) (pa_cons (pv 9) pa_nil))))) (pss_one (ps_ret pe_bl)) pss_nil)
      (C8.pss_cut (ps_set (i := 10) sc_law.nd rfl (.inl rfl) (pe_and (pe_cmpR op_notN (pv 8) pe_non (nomark _)) (pe_and (pe_chain op_le op_lt (pe_ix (r := rIxT K) ix_tup (pv 8) pe_int (fun _ _ => rfl)) (pv 6) (pe_ix (r := rIxT K) ix_tup (pv 8) pe_int (fun _ _ => rfl))) (pe_one (pe_chain op_le op_lt (pe_ix (r := rIxT K) ix_tup (pv 8) pe_int (fun _ _ => rfl)) (pv 7) (pe_ix (r := rIxT K) ix_tup (pv 8) pe_int (fun _ _ => rfl)))))))
      (pss_one (ps_if (pt_cmpR op_ne (pv 10) (pe_and (pe_ix (r := rIxL K) ix_list (pv 9) pe_int (fun _ _ => rfl)) (pe_one (pe_ix (r := rIxL K) ix_list (pv 9) pe_int (fun _ _ => rfl)))) (nomark _)) (pss_one (ps_ret pe_bl)) pss_nil))))))
      (pss_one (ps_if (PW.pt (pw_or (pt_cmpR (r := rNeD K) (op_neD hr.units) (pe_call (ok_common T) hr (by rfl) T.g_common T.F_common.kp T.b_common .nil pass0 (pa_cons (pv 4) (pa_cons (pv 3) pa_nil))) (pv 8) (nomark _)) (pw_or1 (PW.pt (pw_and (pt_cmpR op_notN (pv 8) pe_non (nomark _)) (pw_and1 (pt_not (pt_cmpR op_lt (pe_ix (r := rIxT K) ix_tup (pv 8) pe_int (fun _ _ => rfl)) (pe_ix (r := rIxT K) ix_tup (pv 8) pe_int (fun _ _ => rfl)) (nomark _))))))))) (pss_one (ps_ret pe_bl)) pss_nil))))))))
      (pss_cons (ps_asg (pe_call (ok_rectangle T) hr (by rfl) T.g_rectangle T.F_rectangle.kp T.b_rectangle .nil pass0 (pa_cons (pv 1) (pa_cons (pe_op op_pow pe_int pe_int) pa_nil))) (pg_tup (by rfl) (pgs_cons (pg_name (i := 11) sc_law.nd rfl (.inl rfl)) (pgs_cons (pg_name (i := 12) sc_law.nd rfl (.inl rfl)) (pgs_cons (pg_name (i := 13) sc_law.nd rfl (.inl rfl)) (pgs_cons (pg_name (i := 14) sc_law.nd rfl (.inl rfl)) pgs_nil))))))
      (pss_cons (ps_set (i := 15) sc_law.nd rfl (.inl rfl) (pe_lst (pa_cons (pe_tup (pa_cons (pv 11) (pa_cons (pv 12) (pa_cons (pv 13) (pa_cons (pv 14) pa_nil))))) (pa_cons (pe_tup (pa_cons (pe_un un_neg (pe_op op_pow pe_int pe_int)) (pa_cons (pe_op op_sub (pe_op op_pow pe_int pe_int) pe_int) (pa_cons (pe_op op_pow pe_int pe_int) (pa_cons (pe_op op_pow pe_int pe_int) pa_nil))))) pa_nil))))
      (pss_cons (ps_set (i := 16) sc_law.nd rfl (.inl rfl) (pe_lst (pa_cons (pe_tup (pa_cons (pv 13) (pa_cons (pv 12) (pa_cons (pv 11) (pa_cons (pv 14) pa_nil))))) (pa_cons (pe_tup (pa_cons (pv 11) (pa_cons (pv 14) (pa_cons (pv 13) (pa_cons (pv 12) pa_nil))))) (pa_cons (pe_tup (pa_cons (pv 11) (pa_cons (pv 12) (pa_cons (pv 11) (pa_cons (pv 14) pa_nil))))) (pa_cons (pe_tup (pa_cons (pv 11) (pa_cons (pv 12) (pa_cons (pv 13) (pa_cons (pv 12) pa_nil))))) pa_nil))))))
      (pss_cons (ps_set (i := 16) sc_law.nd rfl (.inl rfl) (pe_op op_cat (pv 16) (pe_lst (pa_cons (pe_tup (pa_cons (pv 11) (pa_cons (pv 12) (pa_cons (pe_op op_add (pe_op op_pow pe_int pe_int) pe_int) (pa_cons (pv 14) pa_nil))))) (pa_cons (pe_tup (pa_cons (pe_op op_sub (pe_un un_neg (pe_op op_pow pe_int pe_int)) pe_int) (pa_cons (pv 12) (pa_cons (pv 13) (pa_cons (pv 14) pa_nil))))) (pa_cons (pe_tup (pa_cons (pv 11) (pa_cons (pv 12) (pa_cons (pv 13) (pa_cons (pe_op op_pow pe_int pe_int) pa_nil))))) pa_nil))))))
      (pss_cons (ps_set (i := 17) sc_law.nd rfl (.inl rfl) (pe_op op_cat (pe_lc (own := [("_law_rect", 18)]) (g := gName 18) (tt := tYes) (by rfl) sc_law.nd (pi_list (pv 15)) (blkOk_by (own := [("_law_rect", 18)]) (N := ["_law_script", "_law_bag_here", "_law_turn", "_law_one", "_law_other", "_law_cells", "_law_x_z", "_law_y_z", "_law_both", "_law_inside", "_law_here", "_law_left", "_law_top", "_law_right", "_law_bottom", "_law_good", "_law_bad", "_law_rows", "_law_rect"]) (sc := defScope s_law) (by decide +kernel)) (fun _ _ _ _ _ => (pg_name (i := 18) sc_law.nd rfl (Or.inl rfl))) (fun _ _ _ _ _ => pts_nil) (fun _ _ _ _ _ => (pe_call (ok_tuple_right T) hr (by rfl) T.g_tuple_right T.F_tuple_right.kp T.b_tuple_right .nil pass0 (pa_cons (pv 18) (pa_cons pe_bl pa_nil))))) (pe_lc (own := [("_law_rect", 18)]) (g := gName 18) (tt := tYes) (by rfl) sc_law.nd (pi_list (pv 16)) (blkOk_by (own := [("_law_rect", 18)]) (N := ["_law_script", "_law_bag_here", "_law_turn", "_law_one", "_law_other", "_law_cells", "_law_x_z", "_law_y_z", "_law_both", "_law_inside", "_law_here", "_law_left", "_law_top", "_law_right", "_law_bottom", "_law_good", "_law_bad", "_law_rows", "_law_rect"]) (sc := defScope s_law) (by decide +kernel)) (fun _ _ _ _ _ => (pg_name (i := 18) sc_law.nd rfl (Or.inl rfl))) (fun _ _ _ _ _ => pts_nil) (fun _ _ _ _ _ => (pe_call (ok_tuple_right T) hr (by rfl) T.g_tuple_right T.F_tuple_right.kp T.b_tuple_right .nil pass0 (pa_cons (pv 18) (pa_cons pe_bl pa_nil)))))))
      (pss_one (ps_ret (pe_and (pe_cmpR (r := rIn K true) op_notIn_seq pe_bl (pv 17) (by rfl)) (pe_one (pe_cmpR op_eq (pe_glob (v := .int 1000000000) (by rfl) T.c_MOST_COORDINATE ⟨_, rfl⟩) (pe_op op_pow pe_int pe_int) (nomark _))))))))))))), ?_⟩
    refine ⟨.ref a, rfl, a, ns, rfl, hS, hlen, fun H0 b s0 e0 nb ns0 B0 => ?_⟩
    refine ⟨6, rfl, by decide, by decide, for_range (n := 6) (fun _ σ H' => (∃ y2 y3 y4 y5 y6 y7 y8 y9 y10, σ = [some (.ref a), some (.ref b), y2, y3, y4, y5, y6, y7, y8, y9, y10, none, none, none, none, none, none, none, none]) ∧ Bag b s0 H') ⟨⟨none, none, none, none, none, none, none, none, none, rfl⟩, B0⟩ ?_ ?_⟩
    · rintro turn σ H1 _ ⟨⟨y2, y3, y4, y5, y6, y7, y8, y9, y10, rfl⟩, B1⟩
      -- one, other
      refine ⟨.ref b, rfl, b, s0, 1, rfl, B1, by decide, by decide, fun u1 u2 u3 u4 H2 o1 k2 B2 no1 ho1 _ _ _ _ _ _ _ _ => ?_⟩
      refine ⟨.ref b, rfl, b, s0, 1, rfl, B2, by decide, by decide, fun v1 v2 v3 v4 H3 o2 k3 B3 no2 ho2 _ _ _ _ _ _ _ _ => ?_⟩
      have ho1 := k3.of_tup B2 ho1
      generalize hp1 : (⟨1 * u1, 1 * u2, 1 * u3, 1 * u4⟩ : R) = p1 at ho1
      generalize hp2 : (⟨1 * v1, 1 * v2, 1 * v3, 1 * v4⟩ : R) = p2 at ho2
      refine ⟨_, _, rfl, ?_⟩
      -- cells
      refine ⟨Nat.zero_le _, fun c0 nc0 => ?_⟩
      have s4 := same_new nc0 (.lst [])
      refine ⟨5, rfl, -5, 10, rfl, ⟨by decide, by decide, by decide, by decide⟩, for_range (lo := -5) (n := 15) (fun i σ H' => ∃ y6 y7 cl L, σ = [some (.ref a), some (.ref b), some (.int (0 + turn)), some (.ref o1), some (.ref o2), some (.ref cl), y6, y7, y8, y9, y10, none, none, none, none, none, none, none, none] ∧ Same H3 H' ∧ H' cl = some (.lst L) ∧ L.length = 15 * i ∧ Cells H' L) ⟨y6, y7, c0, [], rfl, s4, upd_same, rfl, fun v hv => nomatch hv⟩ ?_ ?_⟩
      · rintro i σ H4 hi ⟨y6, y7, cl, L, rfl, s5, hcl, hL, hC⟩
        refine ⟨.ref cl, rfl, 5, rfl, -5, 10, rfl, ⟨by decide, by decide, by decide, by decide⟩, fun D nD => ?_⟩
        refine lc_range (lo := -5) (n := 15) (fun j H' => Same H4 H' ∧ ∃ M, H' D = some (.lst M) ∧ M.length = j ∧ Cells H' M) ⟨same_new nD _, [], upd_same, rfl, fun v hv => nomatch hv⟩ (fun j H5 hj hp => ?_) (fun H5 hp => ?_)
        · obtain ⟨s6, M, hM, lM, cM⟩ := hp
          refine ⟨rfl, .int (-5 + i), rfl, .int (-5 + j), rfl, (by show 2 ≤ sizeLine; decide), fun t nt => ?_⟩
          have s7 := same_new nt (.tup [.int (-5 + i), .int (-5 + j)])
          refine ⟨M, s7 _ _ hM, szl (by omega), ?_, M ++ [.ref t], upd_same, by rw [List.length_append, lM]; rfl, ?_⟩
          · intro x o hx
            rw [upd_ne (ne_of_none hx nD)]
            exact s7 _ _ (s6 _ _ hx)
          · intro v hv
            rcases List.mem_append.mp hv with hv | hv
            · obtain ⟨t', x', y', e1, e2⟩ := cM v hv
              refine ⟨t', x', y', e1, ?_⟩
              rw [upd_ne (ne_of e2 hM (by intro z; cases z))]
              exact s7 _ _ e2
            · have hv := List.mem_singleton.mp hv
              subst hv
              refine ⟨t, -5 + i, -5 + j, rfl, ?_⟩
              rw [upd_ne (ne_of (upd_same (H := H5)) (s7 _ _ hM) (by intro z; cases z))]
              exact upd_same
        · obtain ⟨s6, M, hM, lM, cM⟩ := hp
          refine ⟨cl, D, L, M, rfl, rfl, s6 _ _ hcl, hM, sz (by omega), fun p np => ?_⟩
          have s7 := same_new np (.lst (L ++ M))
          refine ⟨_, _, p, L ++ M, rfl, (s5.trans s6).trans s7, upd_same, by rw [List.length_append]; omega, ?_⟩
          intro v hv
          rcases List.mem_append.mp hv with hv | hv
          · exact (hC.same (s6.trans s7)) v hv
          · exact (cM.same s7) v hv
      · rintro σ H4 ⟨y6, y7, cl, L, rfl, s5, hcl, hL, hC⟩
        have ho1 := s5 _ _ ho1
        have ho2 := s5 _ _ ho2
        -- both
        refine ⟨.ref o1, rfl, .ref o2, rfl, o1, o2, p1, p2, rfl, .inl (.inl ho1), .inl (.inl ho2), fun bt H5 s6 hbt => ?_⟩
        have ho1 := s6 _ _ ho1
        have ho2 := s6 _ _ ho2
        have hcl := s6 _ _ hcl
        have hC := hC.same s6
        refine ⟨.ref cl, rfl, cl, rfl, ⟨_, .inl (.inl hcl)⟩, for_list (xs := L) (fun i σ H' => (∃ y6 y7 y9 y10, σ = [some (.ref a), some (.ref b), some (.int (0 + turn)), some (.ref o1), some (.ref o2), some (.ref cl), y6, y7, some bt, y9, y10, none, none, none, none, none, none, none, none]) ∧ Same H5 H') ⟨⟨y6, y7, y9, y10, rfl⟩, Same.refl _⟩ ?_ ?_ ?_⟩
        · rintro i σ H6 _ ⟨_, s7⟩
          exact .inl (.inl (s7 _ _ hcl))
        · rintro i v σ H6 hv ⟨⟨y6, y7, y9, y10, rfl⟩, s7⟩
          obtain ⟨t, x, y, rfl, ht⟩ := hC v (List.mem_of_getElem? hv)
          have ht := s7 _ _ ht
          have ho1 := s7 _ _ ho1
          have ho2 := s7 _ _ ho2
          refine ⟨t, _, rfl, .inl (.inl ht), rfl, .int x, _, rfl, .int y, _, rfl, rfl, ?_⟩
          -- inside
          refine ⟨.ref o1, rfl, .ref o2, rfl, (by show 2 ≤ sizeLine; decide), fun l nl => ?_⟩
          have s8 := same_new nl (.lst [.ref o1, .ref o2])
          refine ⟨l, rfl, ⟨_, .inl (.inl upd_same)⟩, fun D nD => ?_⟩
          have s9 := same_new nD (.lst [])
          refine lc_list (xs := [.ref o1, .ref o2]) (fun j H' => Same (upd H6 l (.lst [.ref o1, .ref o2])) H' ∧ H' D = some (.lst (([p1, p2].take j).map fun p => .bl (hasB p x y)))) ⟨s9, upd_same⟩ (fun j H' _ hp => .inl (.inl (hp.1 _ _ upd_same))) (fun j v H7 hv hp => ?_) (fun H7 hp => ?_)
          · obtain ⟨s10, hD⟩ := hp
            obtain ⟨o, p, rfl, hj, hT, ej⟩ : ∃ (o : Addr) (p : R), v = .ref o ∧ j < 2 ∧ H7 o = some (.tup p.vs) ∧ [p1, p2].take (j + 1) = [p1, p2].take j ++ [p] := by
              match j, hv with
              | 0, hv =>
                cases hv
                exact ⟨o1, p1, rfl, by decide, s10 _ _ (s8 _ _ ho1), rfl⟩
              | 1, hv =>
                cases hv
                exact ⟨o2, p2, rfl, by decide, s10 _ _ (s8 _ _ ho2), rfl⟩
            have fin : ∀ b : Bool, b = hasB p x y → ∃ acc, H7 D = some (.lst acc) ∧ acc.length < sizeLine ∧ (Same (upd H6 l (.lst [.ref o1, .ref o2])) (upd H7 D (.lst (acc ++ [.bl b]))) ∧ upd H7 D (.lst (acc ++ [.bl b])) D = some (.lst (([p1, p2].take (j + 1)).map fun p => .bl (hasB p x y)))) := fun b hb => by
              refine ⟨_, hD, ?_, ?_, ?_⟩
              · rw [List.length_map, List.length_take]
                exact szl (by omega)
              · intro z o hz
                rw [upd_ne (ne_of_none hz nD)]
                exact s10 _ _ hz
              · rw [upd_same, ej, List.map_append, hb]
                rfl
            have sq : SqT K H7 o p.vs := .inl (.inl hT)
            refine ⟨rfl, .ref o, rfl, o, _, 0, .int p.l, rfl, rfl, sq, at0, .int x, rfl, _, _, rfl, rfl, _, rfl, ite2 (fun c1 => ?_) (fun c1 => ?_)⟩
            · refine ⟨.ref o, rfl, o, _, 2, .int p.r, rfl, rfl, sq, at2, _, _, rfl, rfl, _, rfl, ite2 (fun c2 => ?_) (fun c2 => ?_)⟩
              · refine ⟨.ref o, rfl, o, _, 1, .int p.t, rfl, rfl, sq, at1, .int y, rfl, _, _, rfl, rfl, _, rfl, ite2 (fun c3 => ?_) (fun c3 => ?_)⟩
                · refine ⟨.ref o, rfl, o, _, 3, .int p.b, rfl, rfl, sq, at3, _, _, rfl, rfl, fin _ ?_⟩
                  unfold hasB
                  rw [c1, c2, c3, Bool.true_and, Bool.true_and, Bool.true_and]
                · refine fin _ ?_
                  unfold hasB
                  rw [Bool.eq_false_iff.mpr c3, Bool.false_and, Bool.and_false]
              · refine fin _ ?_
                unfold hasB
                rw [Bool.eq_false_iff.mpr c2, Bool.and_false, Bool.false_and]
            · refine ⟨false, rfl, iteF (fin _ ?_)⟩
              unfold hasB
              rw [Bool.eq_false_iff.mpr c1, Bool.false_and, Bool.false_and]
          · obtain ⟨s10, hD⟩ := hp
            have hD : H7 D = some (.lst [.bl (hasB p1 x y), .bl (hasB p2 x y)]) := hD
            have ho1 := s10 _ _ (s8 _ _ ho1)
            have ho2 := s10 _ _ (s8 _ _ ho2)
            have sA := (s7.trans s8).trans s10
            -- like
            refine ⟨.ref o1, rfl, .int x, rfl, .int y, rfl, o1, p1, x, y, rfl, .inl (.inl ho1), fun b1 e1 => ?_⟩
            refine ⟨.int y, rfl, .int x, rfl, .ref o2, rfl, o2, p2, x, y, rfl, .inl (.inl ho2), fun b2 e2 => ?_⟩
            have x1 := bool_same e1 (hasB_iff p1 x y)
            have x2 := bool_same e2 (hasB_iff p2 x y)
            subst x1 x2
            refine ⟨(by show 2 ≤ sizeLine; decide), fun l1 n1 => ?_⟩
            have s11 := same_new n1 (.lst [.bl (hasB p1 x y), .bl (hasB p2 x y)])
            refine ⟨.ref D, rfl, .ref l1, .ref D, .list [.bool (hasB p1 x y), .bool (hasB p2 x y)], rfl, .lst (.inl (.inl upd_same)) (.cons (.bl _) (.cons (.bl _) .nil)), .lst (.inl (.inl (s11 _ _ hD))) (.cons (.bl _) (.cons (.bl _) .nil)), rfl, fun H8 s12 => ⟨_, rfl, iteF ?_⟩⟩
            have hD := s12 _ _ (s11 _ _ hD)
            have sB := (sA.trans s11).trans s12
            have hbt := isC_same sB hbt
            -- here
            refine ⟨fun σ H' => H' = H8 ∧ σ = [some (.ref a), some (.ref b), some (.int (0 + turn)), some (.ref o1), some (.ref o2), some (.ref cl), some (.int x), some (.int y), some bt, some (.ref D), some (.bl (hasB p1 x y && hasB p2 x y)), none, none, none, none, none, none, none, none], ?_, ?_⟩
            · refine ⟨bt, rfl, rfl, _, rfl, ?_⟩
              have fin : ∀ hb : Bool, hb = (hasB p1 x y && hasB p2 x y) → H8 = H8 ∧ [some (V.ref a), some (.ref b), some (.int (0 + turn)), some (.ref o1), some (.ref o2), some (.ref cl), some (.int x), some (.int y), some bt, some (.ref D), some (.bl hb), none, none, none, none, none, none, none, none] = [some (.ref a), some (.ref b), some (.int (0 + turn)), some (.ref o1), some (.ref o2), some (.ref cl), some (.int x), some (.int y), some bt, some (.ref D), some (.bl (hasB p1 x y && hasB p2 x y)), none, none, none, none, none, none, none, none] := fun hb e => ⟨rfl, by rw [e]⟩
              cases hm : meet p1 p2 with
              | none =>
                rw [hm] at hbt
                have hbt : bt = .non := hbt
                subst hbt
                refine iteNS rfl (fin _ ?_)
                have hn := meet_none hm x y
                rw [← hasB_iff, ← hasB_iff, ← Bool.and_eq_true] at hn
                exact (Bool.eq_false_iff.mpr hn).symm
              | some m =>
                rw [hm] at hbt
                obtain ⟨c, rfl, hT⟩ := hbt
                obtain ⟨em, _, _⟩ := meet_some hm
                have hh : hasB m x y = (hasB p1 x y && hasB p2 x y) := by
                  refine bool_same (hasB_iff m x y) ?_
                  rw [Bool.and_eq_true, hasB_iff, hasB_iff, em]
                  exact (cut_has p1 p2 x y).symm
                rw [decide_eq_false (show ¬ V.ref c = V.non from fun z => nomatch z)]
                refine iteT ?_
                refine ⟨.ref c, rfl, c, _, 0, .int m.l, rfl, rfl, hT, at0, .int x, rfl, _, _, rfl, rfl, _, rfl, ite2 (fun c1 => ?_) (fun c1 => ?_)⟩
                · refine ⟨.ref c, rfl, c, _, 2, .int m.r, rfl, rfl, hT, at2, _, _, rfl, rfl, _, rfl, ite2 (fun c2 => ?_) (fun c2 => ?_)⟩
                  · refine ⟨.ref c, rfl, c, _, 1, .int m.t, rfl, rfl, hT, at1, .int y, rfl, _, _, rfl, rfl, _, rfl, ite2 (fun c3 => ?_) (fun c3 => ?_)⟩
                    · refine ⟨.ref c, rfl, c, _, 3, .int m.b, rfl, rfl, hT, at3, _, _, rfl, rfl, fin _ ?_⟩
                      rw [← hh]
                      unfold hasB
                      rw [c1, c2, c3, Bool.true_and, Bool.true_and, Bool.true_and]
                    · refine fin _ ?_
                      rw [← hh]
                      unfold hasB
                      rw [Bool.eq_false_iff.mpr c3, Bool.false_and, Bool.and_false]
                  · refine fin _ ?_
                    rw [← hh]
                    unfold hasB
                    rw [Bool.eq_false_iff.mpr c2, Bool.and_false, Bool.false_and]
                · refine ⟨false, rfl, iteF (fin _ ?_)⟩
                  rw [← hh]
                  unfold hasB
                  rw [Bool.eq_false_iff.mpr c1, Bool.false_and, Bool.false_and]
            · rintro σ H9 ⟨rfl, rfl⟩
              refine ⟨.bl _, rfl, .ref D, rfl, D, _, 0, _, rfl, rfl, SqL.of hD, at0, _, rfl, ite2 (fun c => ?_) (fun c => ?_)⟩
              · refine ⟨.ref D, rfl, D, _, 1, _, rfl, rfl, SqL.of hD, at1, rfl, _, rfl, iteNS (congrArg V.bl ?_) ⟨⟨_, _, _, _, rfl⟩, sB⟩⟩
                rw [c, Bool.true_and]
              · refine ⟨rfl, _, rfl, iteNS (congrArg V.bl ?_) ⟨⟨_, _, _, _, rfl⟩, sB⟩⟩
                rw [Bool.eq_false_iff.mpr c, Bool.false_and]
        · rintro σ H6 ⟨⟨y6, y7, y9, y10, rfl⟩, s7⟩
          have hbt := isC_same s7 hbt
          have ho1 := s7 _ _ ho1
          have ho2 := s7 _ _ ho2
          refine ⟨.ref o2, rfl, .ref o1, rfl, o2, o1, p2, p1, rfl, .inl (.inl ho2), .inl (.inl ho1), fun v H7 s8 hv => ?_⟩
          have hbt := isC_same s8 hbt
          rw [meet_comm] at hv
          refine ⟨bt, rfl, _, _, isC_dp hv, isC_dp hbt, shaped_opt _, shaped_opt _, _, rfl, ?_⟩
          rw [eqv_opt]
          refine iteF ?_
          refine ⟨bt, rfl, rfl, _, rfl, ?_⟩
          have done : (∃ y2 y3 y4 y5 y6' y7' y8 y9' y10', [some (V.ref a), some (.ref b), some (.int (0 + turn)), some (.ref o1), some (.ref o2), some (.ref cl), y6, y7, some bt, y9, y10, none, none, none, none, none, none, none, none] = [some (V.ref a), some (V.ref b), y2, y3, y4, y5, y6', y7', y8, y9', y10', none, none, none, none, none, none, none, none]) ∧ Bag b s0 H7 := ⟨⟨_, _, _, _, _, _, _, _, _, rfl⟩, B3.same (((s5.trans s6).trans s7).trans s8)⟩
          cases hm : meet p1 p2 with
          | none =>
            rw [hm] at hbt
            have hbt : bt = .non := hbt
            subst hbt
            exact iteNS rfl (iteF done)
          | some m =>
            rw [hm] at hbt
            obtain ⟨c, rfl, hT⟩ := hbt
            obtain ⟨em, hlr, _⟩ := meet_some hm
            rw [decide_eq_false (show ¬ V.ref c = V.non from fun z => nomatch z)]
            refine iteT ?_
            refine ⟨.ref c, rfl, c, _, 0, .int m.l, rfl, rfl, hT, at0, .ref c, rfl, c, _, 2, .int m.r, rfl, rfl, hT, at2, _, _, rfl, rfl, _, rfl, iteNS hlr done⟩
    · rintro σ H1 ⟨⟨y2, y3, y4, y5, y6, y7, y8, y9, y10, rfl⟩, B1⟩
      refine ⟨.ref b, rfl, _, _, rfl, rfl, ⟨by decide, by decide, by decide⟩, b, s0, 100000000, rfl, B1, by decide, by decide, fun x y x2 y2 H2 o k2 B2 no ho h1 h2 h3 h4 h5 h6 h7 h8 => ?_⟩
      refine ⟨o, _, rfl, .inl (.inl ho), rfl, .int (100000000 * x), _, rfl, .int (100000000 * y), _, rfl, .int (100000000 * x2), _, rfl, .int (100000000 * y2), _, rfl, rfl, ?_⟩
      generalize hl : 100000000 * x = l
      generalize ht : 100000000 * y = t
      generalize hr' : 100000000 * x2 = r
      generalize hb' : 100000000 * y2 = m
      have b1 : -400000000 ≤ l ∧ l < r ∧ r ≤ 800000000 ∧ -400000000 ≤ t ∧ t < m ∧ m ≤ 800000000 := by omega
      -- good
      refine ⟨.int l, rfl, .int t, rfl, .int r, rfl, .int m, rfl, (by show 4 ≤ sizeLine; decide), fun g1 ng1 => ?_⟩
      refine ⟨_, _, rfl, rfl, ⟨by decide, by decide, by decide⟩, _, rfl, _, _, rfl, rfl, ⟨by decide, by decide, by decide⟩, _, _, rfl, rfl, _, _, rfl, rfl, ⟨by decide, by decide, by decide⟩, _, _, rfl, rfl, ⟨by decide, by decide, by decide⟩, (by show 4 ≤ sizeLine; decide), fun g2 ng2 => ?_⟩
      refine ⟨(by show 2 ≤ sizeLine; decide), fun gl ngl => ?_⟩
      have e1 := same_new ng1 (.tup (R.vs ⟨l, t, r, m⟩))
      have e2 := same_new ng2 (.tup (R.vs ⟨-1000000000, 999999999, 1000000000, 1000000000⟩))
      have e3 := same_new ngl (.lst [.ref g1, .ref g2])
      -- bad
      refine ⟨.int r, rfl, .int t, rfl, .int l, rfl, .int m, rfl, (by show 4 ≤ sizeLine; decide), fun d1 nd1 => ?_⟩
      refine ⟨.int l, rfl, .int m, rfl, .int r, rfl, .int t, rfl, (by show 4 ≤ sizeLine; decide), fun d2 nd2 => ?_⟩
      refine ⟨.int l, rfl, .int t, rfl, .int l, rfl, .int m, rfl, (by show 4 ≤ sizeLine; decide), fun d3 nd3 => ?_⟩
      refine ⟨.int l, rfl, .int t, rfl, .int r, rfl, .int t, rfl, (by show 4 ≤ sizeLine; decide), fun d4 nd4 => ?_⟩
      refine ⟨(by show 4 ≤ sizeLine; decide), fun bl nbl => ?_⟩
      have f1 := same_new nd1 (.tup (R.vs ⟨r, t, l, m⟩))
      have f2 := same_new nd2 (.tup (R.vs ⟨l, m, r, t⟩))
      have f3 := same_new nd3 (.tup (R.vs ⟨l, t, l, m⟩))
      have f4 := same_new nd4 (.tup (R.vs ⟨l, t, r, t⟩))
      have f5 := same_new nbl (.lst [.ref d1, .ref d2, .ref d3, .ref d4])
      -- bad + three
      refine ⟨.ref bl, rfl, .int l, rfl, .int t, rfl, _, _, rfl, rfl, ⟨by decide, by decide, by decide⟩, _, _, rfl, rfl, .int m, rfl, (by show 4 ≤ sizeLine; decide), fun d5 nd5 => ?_⟩
      refine ⟨_, _, rfl, rfl, ⟨by decide, by decide, by decide⟩, _, rfl, _, _, rfl, rfl, .int t, rfl, .int r, rfl, .int m, rfl, (by show 4 ≤ sizeLine; decide), fun d6 nd6 => ?_⟩
      refine ⟨.int l, rfl, .int t, rfl, .int r, rfl, _, _, rfl, rfl, ⟨by decide, by decide, by decide⟩, (by show 4 ≤ sizeLine; decide), fun d7 nd7 => ?_⟩
      refine ⟨(by show 3 ≤ sizeLine; decide), fun b2 nb2 => ?_⟩
      have f6 := same_new nd5 (.tup (R.vs ⟨l, t, 1000000001, m⟩))
      have f7 := same_new nd6 (.tup (R.vs ⟨-1000000001, t, r, m⟩))
      have f8 := same_new nd7 (.tup (R.vs ⟨l, t, r, 100000000000000000000000000000⟩))
      have f9 := same_new nb2 (.lst [.ref d5, .ref d6, .ref d7])
      have g6 := (f6.trans f7).trans (f8.trans f9)
      refine ⟨bl, b2, _, _, rfl, rfl, g6 _ _ upd_same, upd_same, (by show 7 ≤ sizeLine; decide), fun b3 nb3 => ?_⟩
      obtain ⟨HA, eHA, f10, hb3⟩ := new_ex nb3 (.lst ([.ref d1, .ref d2, .ref d3, .ref d4] ++ [.ref d5, .ref d6, .ref d7]))
      rw [← eHA]
      clear eHA
      have g7 := g6.trans f10
      have g5 := f5.trans g7
      have g4 := f4.trans g5
      have g3 := f3.trans g4
      have g2' := f2.trans g3
      have g1' := f1.trans g2'
      have h3' := e3.trans g1'
      have h2' := e2.trans h3'
      have rowsG : ∀ v ∈ [V.ref g1, V.ref g2], ∃ (o : Addr) (p : R), v = .ref o ∧ HA o = some (.tup p.vs) ∧ (true = true ↔ p.good) := fun v hv => by
        simp only [List.mem_cons, List.not_mem_nil, or_false] at hv
        rcases hv with rfl | rfl
        · exact ⟨_, ⟨l, t, r, m⟩, rfl, h2' _ _ upd_same, fun _ => by unfold R.good; simp only; omega, fun _ => rfl⟩
        · exact ⟨_, ⟨-1000000000, 999999999, 1000000000, 1000000000⟩, rfl, h3' _ _ upd_same, fun _ => by unfold R.good; simp only; omega, fun _ => rfl⟩
      have rowsB : ∀ v ∈ [V.ref d1, .ref d2, .ref d3, .ref d4] ++ [V.ref d5, .ref d6, .ref d7], ∃ (o : Addr) (p : R), v = .ref o ∧ HA o = some (.tup p.vs) ∧ (false = true ↔ p.good) := fun v hv => by
        simp only [List.cons_append, List.nil_append, List.mem_cons, List.not_mem_nil, or_false] at hv
        rcases hv with rfl | rfl | rfl | rfl | rfl | rfl | rfl
        · exact ⟨_, ⟨r, t, l, m⟩, rfl, g2' _ _ upd_same, fun z => Bool.noConfusion z, fun z => by unfold R.good at z; simp only at z; omega⟩
        · exact ⟨_, ⟨l, m, r, t⟩, rfl, g3 _ _ upd_same, fun z => Bool.noConfusion z, fun z => by unfold R.good at z; simp only at z; omega⟩
        · exact ⟨_, ⟨l, t, l, m⟩, rfl, g4 _ _ upd_same, fun z => Bool.noConfusion z, fun z => by unfold R.good at z; simp only at z; omega⟩
        · exact ⟨_, ⟨l, t, r, t⟩, rfl, g5 _ _ upd_same, fun z => Bool.noConfusion z, fun z => by unfold R.good at z; simp only at z; omega⟩
        · exact ⟨_, ⟨l, t, 1000000001, m⟩, rfl, (f7.trans ((f8.trans f9).trans f10)) _ _ upd_same, fun z => Bool.noConfusion z, fun z => by unfold R.good at z; simp only at z; omega⟩
        · exact ⟨_, ⟨-1000000001, t, r, m⟩, rfl, ((f8.trans f9).trans f10) _ _ upd_same, fun z => Bool.noConfusion z, fun z => by unfold R.good at z; simp only at z; omega⟩
        · exact ⟨_, ⟨l, t, r, 100000000000000000000000000000⟩, rfl, (f9.trans f10) _ _ upd_same, fun z => Bool.noConfusion z, fun z => by unfold R.good at z; simp only at z; omega⟩
      have hgl := g1' _ _ (upd_same (H := _) (a := gl) (o := .lst [.ref g1, .ref g2]))
      -- rows
      refine ⟨.ref gl, rfl, gl, rfl, ⟨_, .inl (.inl hgl)⟩, fun D nD => ?_⟩
      refine lc_list (xs := [.ref g1, .ref g2]) (fun j H' => Same HA H' ∧ H' D = some (.lst (List.replicate j (.bl true)))) ⟨same_new nD _, upd_same⟩ (fun j H' _ hp => .inl (.inl (hp.1 _ _ hgl))) (fun j v H7 hv hp => ?_) (fun H7 hp => ?_)
      · obtain ⟨s10, hD⟩ := hp
        have hj := (List.getElem?_eq_some_iff.mp hv).1
        obtain ⟨o, p, rfl, hT, hd⟩ := rowsG v (List.mem_of_getElem? hv)
        refine ⟨rfl, .ref o, rfl, o, p, true, rfl, .inl (.inl (s10 _ _ hT)), hd, fun H8 s11 => ⟨_, s11 _ _ hD, ?_, ?_, ?_⟩⟩
        · rw [List.length_replicate]
          exact szl (Nat.le_trans (Nat.le_of_lt hj) (by simp))
        · intro z o hz
          rw [upd_ne (ne_of_none hz nD)]
          exact s11 _ _ (s10 _ _ hz)
        · rw [upd_same, List.replicate_succ']
      · obtain ⟨s10, hD⟩ := hp
        refine ⟨.ref b3, rfl, b3, rfl, ⟨_, .inl (.inl (s10 _ _ hb3))⟩, fun D2 nD2 => ?_⟩
        refine lc_list (xs := [V.ref d1, .ref d2, .ref d3, .ref d4] ++ [.ref d5, .ref d6, .ref d7]) (fun j H' => Same H7 H' ∧ H' D2 = some (.lst (List.replicate j (.bl true)))) ⟨same_new nD2 _, upd_same⟩ (fun j H' _ hp => .inl (.inl (hp.1 _ _ (s10 _ _ hb3)))) (fun j v H8 hv hp => ?_) (fun H8 hp => ?_)
        · obtain ⟨s12, hD2⟩ := hp
          have hj := (List.getElem?_eq_some_iff.mp hv).1
          obtain ⟨o, p, rfl, hT, hd⟩ := rowsB v (List.mem_of_getElem? hv)
          refine ⟨rfl, .ref o, rfl, o, p, false, rfl, .inl (.inl (s12 _ _ (s10 _ _ hT))), hd, fun H9 s13 => ⟨_, s13 _ _ hD2, ?_, ?_, ?_⟩⟩
          · rw [List.length_replicate]
            exact szl (Nat.le_trans (Nat.le_of_lt hj) (by simp))
          · intro z o hz
            rw [upd_ne (ne_of_none hz nD2)]
            exact s13 _ _ (s12 _ _ hz)
          · rw [upd_same, List.replicate_succ']
        · obtain ⟨s12, hD2⟩ := hp
          refine ⟨D, D2, _, _, rfl, rfl, s12 _ _ hD, hD2, (by show 9 ≤ sizeLine; decide), fun rw' nrw => ?_⟩
          refine ⟨.ref rw', rfl, rw', _, rfl, .inl (SqL.of upd_same), rfl, rfl, _, rfl, ?_⟩
          refine ⟨_, _, rfl, rfl, ⟨by decide, by decide, by decide⟩, rfl, ?_⟩
          rw [decide_eq_true (show V.int 1000000000 = V.int (10 ^ Int.toNat 9) by decide)]
          exact q _
end
theorem all_mk {l : PySem.W.OpenLaw} {w : World} {K : PySem.W.Frag} {h : Heap} {mg : Str → Option Value} {fa : Addr} (X : K.In h) (G : h.Ns mainGlobals mg) (hfa : mg "law" = some (.ref fa))
    {f0 : Addr} {od0 an0 : Option Addr} {sl0 : Array (Option Value)} {oc0 kV0 dc0 pm0 cd0 ct0 : Value}
    (a0 : PySem.W.nsIn K mainGlobals "is_rectangle" = some (some (.ref f0))) (l0 : K.lookup f0 = some ⟨oc0, od0, .func (PySem.W.fnOf "is_rectangle" "is_rectangle" (defArgs s_is_rectangle) (defBody s_is_rectangle) (defScope s_is_rectangle) .none kV0 dc0 pm0 an0 cd0 ct0), sl0⟩) (c0 : PySem.W.codeIn K cd0 "is_rectangle" = true) (k0 : PySem.W.keepIn K (.ref f0) = true)
    {f1 : Addr} {od1 an1 : Option Addr} {sl1 : Array (Option Value)} {oc1 kV1 dc1 pm1 cd1 ct1 : Value}
    (a1 : PySem.W.nsIn K mainGlobals "has_four_numbers" = some (some (.ref f1))) (l1 : K.lookup f1 = some ⟨oc1, od1, .func (PySem.W.fnOf "has_four_numbers" "has_four_numbers" (defArgs s_has_four_numbers) (defBody s_has_four_numbers) (defScope s_has_four_numbers) .none kV1 dc1 pm1 an1 cd1 ct1), sl1⟩) (c1 : PySem.W.codeIn K cd1 "has_four_numbers" = true) (k1 : PySem.W.keepIn K (.ref f1) = true)
    {f2 : Addr} {od2 an2 : Option Addr} {sl2 : Array (Option Value)} {oc2 kV2 dc2 pm2 cd2 ct2 : Value}
    (a2 : PySem.W.nsIn K mainGlobals "covers" = some (some (.ref f2))) (l2 : K.lookup f2 = some ⟨oc2, od2, .func (PySem.W.fnOf "covers" "covers" (defArgs s_covers) (defBody s_covers) (defScope s_covers) .none kV2 dc2 pm2 an2 cd2 ct2), sl2⟩) (c2 : PySem.W.codeIn K cd2 "covers" = true) (k2 : PySem.W.keepIn K (.ref f2) = true)
    {f3 : Addr} {od3 an3 : Option Addr} {sl3 : Array (Option Value)} {oc3 kV3 dc3 pm3 cd3 ct3 : Value}
    (a3 : PySem.W.nsIn K mainGlobals "common" = some (some (.ref f3))) (l3 : K.lookup f3 = some ⟨oc3, od3, .func (PySem.W.fnOf "common" "common" (defArgs s_common) (defBody s_common) (defScope s_common) .none kV3 dc3 pm3 an3 cd3 ct3), sl3⟩) (c3 : PySem.W.codeIn K cd3 "common" = true) (k3 : PySem.W.keepIn K (.ref f3) = true)
    {f4 : Addr} {od4 an4 : Option Addr} {sl4 : Array (Option Value)} {oc4 kV4 dc4 pm4 cd4 ct4 : Value}
    (a4 : PySem.W.nsIn K mainGlobals "_law_bag" = some (some (.ref f4))) (l4 : K.lookup f4 = some ⟨oc4, od4, .func (PySem.W.fnOf "_law_bag" "_law_bag" (defArgs s_bag) (defBody s_bag) (defScope s_bag) .none kV4 dc4 pm4 an4 cd4 ct4), sl4⟩) (c4 : PySem.W.codeIn K cd4 "_law_bag" = true) (k4 : PySem.W.keepIn K (.ref f4) = true)
    {f5 : Addr} {od5 an5 : Option Addr} {sl5 : Array (Option Value)} {oc5 kV5 dc5 pm5 cd5 ct5 : Value}
    (a5 : PySem.W.nsIn K mainGlobals "_law_pull" = some (some (.ref f5))) (l5 : K.lookup f5 = some ⟨oc5, od5, .func (PySem.W.fnOf "_law_pull" "_law_pull" (defArgs s_pull) (defBody s_pull) (defScope s_pull) .none kV5 dc5 pm5 an5 cd5 ct5), sl5⟩) (c5 : PySem.W.codeIn K cd5 "_law_pull" = true) (k5 : PySem.W.keepIn K (.ref f5) = true)
    {f6 : Addr} {od6 an6 : Option Addr} {sl6 : Array (Option Value)} {oc6 kV6 dc6 pm6 cd6 ct6 : Value}
    (a6 : PySem.W.nsIn K mainGlobals "_law_like" = some (some (.ref f6))) (l6 : K.lookup f6 = some ⟨oc6, od6, .func (PySem.W.fnOf "_law_like" "_law_like" (defArgs s_like) (defBody s_like) (defScope s_like) .none kV6 dc6 pm6 an6 cd6 ct6), sl6⟩) (c6 : PySem.W.codeIn K cd6 "_law_like" = true) (k6 : PySem.W.keepIn K (.ref f6) = true)
    {f7 : Addr} {od7 an7 : Option Addr} {sl7 : Array (Option Value)} {oc7 kV7 dc7 pm7 cd7 ct7 : Value}
    (a7 : PySem.W.nsIn K mainGlobals "_law_rectangle" = some (some (.ref f7))) (l7 : K.lookup f7 = some ⟨oc7, od7, .func (PySem.W.fnOf "_law_rectangle" "_law_rectangle" (defArgs s_rectangle) (defBody s_rectangle) (defScope s_rectangle) .none kV7 dc7 pm7 an7 cd7 ct7), sl7⟩) (c7 : PySem.W.codeIn K cd7 "_law_rectangle" = true) (k7 : PySem.W.keepIn K (.ref f7) = true)
    {f8 : Addr} {od8 an8 : Option Addr} {sl8 : Array (Option Value)} {oc8 kV8 dc8 pm8 cd8 ct8 : Value}
    (a8 : PySem.W.nsIn K mainGlobals "_law_tuple_right" = some (some (.ref f8))) (l8 : K.lookup f8 = some ⟨oc8, od8, .func (PySem.W.fnOf "_law_tuple_right" "_law_tuple_right" (defArgs s_tuple_right) (defBody s_tuple_right) (defScope s_tuple_right) .none kV8 dc8 pm8 an8 cd8 ct8), sl8⟩) (c8 : PySem.W.codeIn K cd8 "_law_tuple_right" = true) (k8 : PySem.W.keepIn K (.ref f8) = true)
    {f9 : Addr} {od9 an9 : Option Addr} {sl9 : Array (Option Value)} {oc9 kV9 dc9 pm9 cd9 ct9 : Value}
    (a9 : PySem.W.nsIn K mainGlobals "law" = some (some (.ref f9))) (l9 : K.lookup f9 = some ⟨oc9, od9, .func (PySem.W.fnOf "law" "law" (defArgs s_law) (defBody s_law) (defScope s_law) .none kV9 dc9 pm9 an9 cd9 ct9), sl9⟩) (c9 : PySem.W.codeIn K cd9 "law" = true) (k9 : PySem.W.keepIn K (.ref f9) = true)
    {t_MOST_COORDINATE : Tok} (n_MOST_COORDINATE : PySem.W.nsIn K mainGlobals "MOST_COORDINATE" = some (some (.int 1000000000 t_MOST_COORDINATE)))
    (z_all : PySem.W.nsIn K mainGlobals "all" = some none)
    (z_bool : PySem.W.nsIn K mainGlobals "bool" = some none)
    (z_int : PySem.W.nsIn K mainGlobals "int" = some none)
    (z_isinstance : PySem.W.nsIn K mainGlobals "isinstance" = some none)
    (z_len : PySem.W.nsIn K mainGlobals "len" = some none)
    (z_list : PySem.W.nsIn K mainGlobals "list" = some none)
    (z_max : PySem.W.nsIn K mainGlobals "max" = some none)
    (z_min : PySem.W.nsIn K mainGlobals "min" = some none)
    (z_range : PySem.W.nsIn K mainGlobals "range" = some none)
    (z_tuple : PySem.W.nsIn K mainGlobals "tuple" = some none)
    : ∃ fd : FuncData, (∀ (s : Shared) (v : Value), BindsTo s fd ⟨[v], []⟩ [("_law_script", v)]) ∧ ∀ base : Heap, K.In base → base.Ns mainGlobals mg → FnOk l.prog w K mg base CX0 7 fa fd ["_law_script"] (spLaw K) := by
  have e := hfa.symm.trans (PySem.W.mg_of X G a9)
  cases e
  have F0 := fun_mk (st := s_is_rectangle) l0 c0 k0
  have b0 := F0.binds (ps := ["rectangle"]) fun _ _ _ _ _ _ us hl => match us, hl with | [_], _ => rfl
  have F1 := fun_mk (st := s_has_four_numbers) l1 c1 k1
  have b1 := F1.binds (ps := ["value"]) fun _ _ _ _ _ _ us hl => match us, hl with | [_], _ => rfl
  have F2 := fun_mk (st := s_covers) l2 c2 k2
  have b2 := F2.binds (ps := ["rectangle", "x", "y"]) fun _ _ _ _ _ _ us hl => match us, hl with | [_, _, _], _ => rfl
  have F3 := fun_mk (st := s_common) l3 c3 k3
  have b3 := F3.binds (ps := ["one", "other"]) fun _ _ _ _ _ _ us hl => match us, hl with | [_, _], _ => rfl
  have F4 := fun_mk (st := s_bag) l4 c4 k4
  have b4 := F4.binds (ps := ["_law_script"]) fun _ _ _ _ _ _ us hl => match us, hl with | [_], _ => rfl
  have F5 := fun_mk (st := s_pull) l5 c5 k5
  have b5 := F5.binds (ps := ["_law_bag_here", "_law_amount"]) fun _ _ _ _ _ _ us hl => match us, hl with | [_, _], _ => rfl
  have F6 := fun_mk (st := s_like) l6 c6 k6
  have b6 := F6.binds (ps := ["_law_found", "_law_due"]) fun _ _ _ _ _ _ us hl => match us, hl with | [_, _], _ => rfl
  have F7 := fun_mk (st := s_rectangle) l7 c7 k7
  have b7 := F7.binds (ps := ["_law_bag_here", "_law_scale"]) fun _ _ _ _ _ _ us hl => match us, hl with | [_, _], _ => rfl
  have F8 := fun_mk (st := s_tuple_right) l8 c8 k8
  have b8 := F8.binds (ps := ["_law_rect", "_law_due"]) fun _ _ _ _ _ _ us hl => match us, hl with | [_, _], _ => rfl
  have F9 := fun_mk (st := s_law) l9 c9 k9
  have b9 := F9.binds (ps := ["_law_script"]) fun _ _ _ _ _ _ us hl => match us, hl with | [_], _ => rfl
  have kb_is_rectangle_0_rectangle : KBinds K (PySem.W.fnOf "is_rectangle" "is_rectangle" (defArgs s_is_rectangle) (defBody s_is_rectangle) (defScope s_is_rectangle) .none kV0 dc0 pm0 an0 cd0 ct0) ["rectangle"] ["rectangle"] (kwG_kb_is_rectangle_0_rectangle (α := Value)) (kwG_kb_is_rectangle_0_rectangle (α := V)) := by
    refine ⟨fun s us ws _ hl => ?_, fun {vs us zs ws} r1 r2 => ?_⟩
    · match us, ws, hl with
      | [], [c0], _ => exact BindsTo.of_eq (fd := PySem.W.fnOf "is_rectangle" "is_rectangle" (defArgs s_is_rectangle) (defBody s_is_rectangle) (defScope s_is_rectangle) .none kV0 dc0 pm0 an0 cd0 ct0) rfl
    · cases r1 with
      | nil =>
        cases r2 with
        | nil => exact .nil
        | cons q0 r2 =>
          cases r2 with
          | nil =>
            exact (.cons q0 .nil)
          | cons _ _ => exact .nil
      | cons _ _ => (cases r2 <;> exact .nil)
  have kb_covers_0_y_x_rectangle : KBinds K (PySem.W.fnOf "covers" "covers" (defArgs s_covers) (defBody s_covers) (defScope s_covers) .none kV2 dc2 pm2 an2 cd2 ct2) ["rectangle", "x", "y"] ["y", "x", "rectangle"] (kwG_kb_covers_0_y_x_rectangle (α := Value)) (kwG_kb_covers_0_y_x_rectangle (α := V)) := by
    refine ⟨fun s us ws _ hl => ?_, fun {vs us zs ws} r1 r2 => ?_⟩
    · match us, ws, hl with
      | [], [c0, c1, c2], _ => exact BindsTo.of_eq (fd := PySem.W.fnOf "covers" "covers" (defArgs s_covers) (defBody s_covers) (defScope s_covers) .none kV2 dc2 pm2 an2 cd2 ct2) rfl
    · cases r1 with
      | nil =>
        cases r2 with
        | nil => exact .nil
        | cons q0 r2 =>
          cases r2 with
          | nil => exact .nil
          | cons q1 r2 =>
            cases r2 with
            | nil => exact .nil
            | cons q2 r2 =>
              cases r2 with
              | nil =>
                exact (.cons q2 (.cons q1 (.cons q0 .nil)))
              | cons _ _ => exact .nil
      | cons _ _ => (cases r2 <;> exact .nil)
  let T : Txt K mg := { f_is_rectangle := _, fd_is_rectangle := _, F_is_rectangle := F0, g_is_rectangle := PySem.W.mg_of X G a0, b_is_rectangle := b0, f_has_four_numbers := _, fd_has_four_numbers := _, F_has_four_numbers := F1, g_has_four_numbers := PySem.W.mg_of X G a1, b_has_four_numbers := b1, f_covers := _, fd_covers := _, F_covers := F2, g_covers := PySem.W.mg_of X G a2, b_covers := b2, f_common := _, fd_common := _, F_common := F3, g_common := PySem.W.mg_of X G a3, b_common := b3, f_bag := _, fd_bag := _, F_bag := F4, g_bag := PySem.W.mg_of X G a4, b_bag := b4, f_pull := _, fd_pull := _, F_pull := F5, g_pull := PySem.W.mg_of X G a5, b_pull := b5, f_like := _, fd_like := _, F_like := F6, g_like := PySem.W.mg_of X G a6, b_like := b6, f_rectangle := _, fd_rectangle := _, F_rectangle := F7, g_rectangle := PySem.W.mg_of X G a7, b_rectangle := b7, f_tuple_right := _, fd_tuple_right := _, F_tuple_right := F8, g_tuple_right := PySem.W.mg_of X G a8, b_tuple_right := b8, f_law := _, fd_law := _, F_law := F9, g_law := PySem.W.mg_of X G a9, b_law := b9, kb_is_rectangle_0_rectangle := kb_is_rectangle_0_rectangle, kb_covers_0_y_x_rectangle := kb_covers_0_y_x_rectangle, t_MOST_COORDINATE := t_MOST_COORDINATE, c_MOST_COORDINATE := PySem.W.mg_of X G n_MOST_COORDINATE, m_all := PySem.W.mg_none_of X G z_all, m_bool := PySem.W.mg_none_of X G z_bool, m_int := PySem.W.mg_none_of X G z_int, m_isinstance := PySem.W.mg_none_of X G z_isinstance, m_len := PySem.W.mg_none_of X G z_len, m_list := PySem.W.mg_none_of X G z_list, m_max := PySem.W.mg_none_of X G z_max, m_min := PySem.W.mg_none_of X G z_min, m_range := PySem.W.mg_none_of X G z_range, m_tuple := PySem.W.mg_none_of X G z_tuple }
  exact ⟨PySem.W.fnOf "law" "law" (defArgs s_law) (defBody s_law) (defScope s_law) .none kV9 dc9 pm9 an9 cd9 ct9, fun s v => .of_eq rfl, fun base _ _ => ok_law T⟩
end RK
open PySem PySem.W PyProof.Rows
set_option maxHeartbeats 0 in
theorem PySem.Challenge.cw_raisekeys_k01_rectangles_holds : PySem.Challenge.rw_raisekeys_k01_rectangles.Holds := by
  w_on; o_law; k_head; (case hw => w_witness2)
  k_fill
  refine L2.walk_of (l := PySem.Challenge.rw_raisekeys_k01_rectangles) (n := 63) (k := 7) (x := "_law_script") (CX := fun _ => L2.CX0) (sp := fun w => RK.spLaw _) rfl (by decide) rfl ⟨rfl, by decide, by decide⟩ (fun w h Y => PySem.W.kIn_of Y) ?F (fun _ _ a ns hl _ hS => ⟨a, ns, rfl, hS, hl, fun _ => rfl⟩) (fun _ _ _ _ _ h => h)
  case F =>
    intro w mg fa h KX G hmg
    refine' RK.all_mk KX G hmg ?a0 ?l0 ?c0 ?k0 ?a1 ?l1 ?c1 ?k1 ?a2 ?l2 ?c2 ?k2 ?a3 ?l3 ?c3 ?k3 ?a4 ?l4 ?c4 ?k4 ?a5 ?l5 ?c5 ?k5 ?a6 ?l6 ?c6 ?k6 ?a7 ?l7 ?c7 ?k7 ?a8 ?l8 ?c8 ?k8 ?a9 ?l9 ?c9 ?k9 ?n_MOST_COORDINATE ?z_all ?z_bool ?z_int ?z_isinstance ?z_len ?z_list ?z_max ?z_min ?z_range ?z_tuple
    (case a0 => k_is)
    (case l0 => k_is)
    (case c0 => k_is)
    (case k0 => k_is)
    (case a1 => k_is)
    (case l1 => k_is)
    (case c1 => k_is)
    (case k1 => k_is)
    (case a2 => k_is)
    (case l2 => k_is)
    (case c2 => k_is)
    (case k2 => k_is)
    (case a3 => k_is)
    (case l3 => k_is)
    (case c3 => k_is)
    (case k3 => k_is)
    (case a4 => k_is)
    (case l4 => k_is)
    (case c4 => k_is)
    (case k4 => k_is)
    (case a5 => k_is)
    (case l5 => k_is)
    (case c5 => k_is)
    (case k5 => k_is)
    (case a6 => k_is)
    (case l6 => k_is)
    (case c6 => k_is)
    (case k6 => k_is)
    (case a7 => k_is)
    (case l7 => k_is)
    (case c7 => k_is)
    (case k7 => k_is)
    (case a8 => k_is)
    (case l8 => k_is)
    (case c8 => k_is)
    (case k8 => k_is)
    (case a9 => k_is)
    (case l9 => k_is)
    (case c9 => k_is)
    (case k9 => k_is)
    (case n_MOST_COORDINATE => k_is)
    (case z_all => k_is)
    (case z_bool => k_is)
    (case z_int => k_is)
    (case z_isinstance => k_is)
    (case z_len => k_is)
    (case z_list => k_is)
    (case z_max => k_is)
    (case z_min => k_is)
    (case z_range => k_is)
    (case z_tuple => k_is)
