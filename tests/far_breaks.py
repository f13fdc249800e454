"""Broken comparisons of which the records that are looked at first are not enough to tell that."""

# The text of a family, and that of a comparison.
FAR = (
    (
        "field x m\nfield y m\nfield z n\nkind base : ;\nkind k : base ; x y\nkind l : base ; x z",
        "if ((0 < a.x or a.x == a.y) and not (0 < b.x or b.x == b.y)) then less else if ((0 < b.x or b.x == b.y) "
        "and not (0 < a.x or a.x == a.y)) then greater else if ((a.y == a.y or a.x < 0 or 0 == a.z) and not (b.y =="
        " b.y or b.x < 0 or 0 == b.z)) then less else if ((b.y == b.y or b.x < 0 or 0 == b.z) and not (a.y == a.y "
        "or a.x < 0 or 0 == a.z)) then greater else if a.y < b.y then less else if b.y < a.y then greater else "
        "alike",
    ),
    (
        "field x m\nfield y m\nfield z m\nkind k : ; x y z",
        "if b.x < a.x then less else if a.x < b.x then greater else if (a.z < b.y and not b.z < a.y) then less else"
        " if (b.z < a.y and not a.z < b.y) then greater else if a.y < b.y then less else if b.y < a.y then greater "
        "else alike",
    ),
    (
        "field x m\nfield y m\nkind k : ; x y\nkind j : k ;",
        "if (a.x < b.x and a is k and b is j) then greater else if (b.x < a.x and b is k and a is j) then less else"
        " if (not a.x < a.y and not not b.x < b.y) then less else if (not b.x < b.y and not not a.x < a.y) then "
        "greater else if b.y < a.y then less else if a.y < b.y then greater else if b.x < a.x then less else if a.x"
        " < b.x then greater else alike",
    ),
    (
        "field x m\nfield y m\nkind k : ; x y\nkind j : k ;",
        "if (b.y < a.y and b.x < b.y and a.x == b.x and a is j and b is j) then less else if (a.y < b.y and a.x < "
        "a.y and b.x == a.x and b is j and a is j) then greater else if (0 < b.x and a.y == 0 and a.x < a.y and b "
        "is j) then less else if (0 < a.x and b.y == 0 and b.x < b.y and a is j) then greater else if b.y < a.y "
        "then less else if a.y < b.y then greater else if b.x < a.x then less else if a.x < b.x then greater else "
        "alike",
    ),
    (
        "field x m\nfield y m\nkind k : ; x y\nkind j : k ;",
        "if (b.y < a.x and b.x < b.y and 0 < a.y and a.x == 0) then alike else if (a.y < b.x and a.x < a.y and 0 < "
        "b.y and b.x == 0) then alike else if (a.x == b.x and b.y < a.y and 0 < a.x) then alike else if (b.x == a.x"
        " and a.y < b.y and 0 < b.x) then alike else if (a.x < a.x and not b.x < b.x) then less else if (b.x < b.x "
        "and not a.x < a.x) then greater else if b.x < a.x then less else if a.x < b.x then greater else if a.y < "
        "b.y then less else if b.y < a.y then greater else alike",
    ),
    (
        "field x m\nfield y m\nkind k : ; x y\nkind l : ; x y\nkind o : ; y",
        "if (b.y < a.x and a.y < b.x and a.x < a.y) then greater else if (a.y < b.x and b.y < a.x and b.x < b.y) "
        "then less else if (a.y < b.x and b.x < b.y and a.x < a.y and b is l) then greater else if (b.y < a.x and "
        "a.x < a.y and b.x < b.y and a is l) then less else if (a is k and not b is k) then less else if (b is k "
        "and not a is k) then greater else if b.y < a.y then less else if a.y < b.y then greater else alike",
    ),
    (
        "field x m\nfield y m\nkind k : ; x y\nkind j : k ;",
        "if (b.y < a.x and b.x < b.y and a is k and b is k) then less else if (a.y < b.x and a.x < a.y and b is k "
        "and a is k) then greater else if (b.x < a.x and b.y < b.x and a.x < a.y and a is j and b is j) then alike "
        "else if (a.x < b.x and a.y < a.x and b.x < b.y and b is j and a is j) then alike else if ((a is j or a is "
        "j) and not (b is j or b is j)) then less else if ((b is j or b is j) and not (a is j or a is j)) then "
        "greater else if b.y < a.y then less else if a.y < b.y then greater else if a.x < b.x then less else if b.x"
        " < a.x then greater else alike",
    ),
    (
        "field x m\nfield y m\nkind k : ; x y\nkind j : k ;",
        "if (a.x < a.y and b.x < b.y and a.y == b.x) then greater else if (b.x < b.y and a.x < a.y and b.y == a.x) "
        "then less else if (b.x < b.y and a.y < b.x and b is k) then greater else if (a.x < a.y and b.y < a.x and a"
        " is k) then less else if (a.y == b.y and b.y < b.x and a.x < a.y and b is k) then greater else if (b.y == "
        "a.y and a.y < a.x and b.x < b.y and a is k) then less else if (a.x == a.y and not b.x == b.y) then less "
        "else if (b.x == b.y and not a.x == a.y) then greater else if b.x < a.x then less else if a.x < b.x then "
        "greater else if b.y < a.y then less else if a.y < b.y then greater else alike",
    ),
    (
        "field x m\nfield y m\nfield z m\nkind k : ; x y z",
        "if b.y < a.y then less else if a.y < b.y then greater else if (not a.x == a.y and not b.x == b.y) then if "
        "a.z < b.z then less else if b.z < a.z then greater else alike else if (0 < a.x and not 0 < b.x) then less "
        "else if (0 < b.x and not 0 < a.x) then greater else alike",
    ),
    (
        "field x m\nfield y m\nkind k : ; x y\nkind l : ; x y\nkind o : ; y",
        "if (b.y < a.x and b.x < b.y and b is k) then less else if (a.y < b.x and a.x < a.y and a is k) then "
        "greater else if (not a is l and not not b is l) then less else if (not b is l and not not a is l) then "
        "greater else if b.y < a.y then less else if a.y < b.y then greater else if b.x < a.x then less else if a.x"
        " < b.x then greater else alike",
    ),
    (
        "field x m\nfield y m\nkind k : ; x y\nkind l : ; x y\nkind o : ; y",
        "if (b.x == b.y and b.y < 0 and 0 < a.x and a.y < b.x and b is k) then less else if (a.x == a.y and a.y < 0"
        " and 0 < b.x and b.y < a.x and a is k) then greater else if (b.x < b.y and 0 < a.x and b.y == 0 and a.x < "
        "a.y) then less else if (a.x < a.y and 0 < b.x and a.y == 0 and b.x < b.y) then greater else if ((a.x == "
        "a.y or 0 < a.x) and not (b.x == b.y or 0 < b.x)) then less else if ((b.x == b.y or 0 < b.x) and not (a.x "
        "== a.y or 0 < a.x)) then greater else if b.x < a.x then less else if a.x < b.x then greater else alike",
    ),
    (
        "field cost money\nfield pages size\nfield price money\nkind ware : ; price\nkind book : ware ; pages\nkind"
        " pen : ware ; cost",
        "if a.cost < b.cost then less else if b.cost < a.cost then greater else if (a.price < 0 and not b.price < "
        "0) then less else if (b.price < 0 and not a.price < 0) then greater else alike",
    ),
    (
        "field cost money\nfield pages size\nfield price money\nkind ware : ; price\nkind book : ware ; pages\nkind"
        " pen : ware ; cost",
        "if a.cost < b.cost then less else if b.cost < a.cost then greater else if (a.price < 1000 and not b.price "
        "< 1000) then less else if (b.price < 1000 and not a.price < 1000) then greater else alike",
    ),
    (
        "field cost money\nfield pages size\nfield price money\nkind ware : ; price\nkind book : ware ; pages\nkind"
        " pen : ware ; cost",
        "if (a.price < 1000 and not b.price < 1000) then less else if (b.price < 1000 and not a.price < 1000) then "
        "greater else if a.cost < b.cost then less else if b.cost < a.cost then greater else alike",
    ),
    (
        "field cost money\nfield pages size\nfield price money\nkind ware : ; price\nkind book : ware ; pages\nkind"
        " pen : ware ; cost",
        "if (a.price == 0 and not b.price == 0) then less else if (b.price == 0 and not a.price == 0) then greater "
        "else if a.cost < b.cost then less else if b.cost < a.cost then greater else alike",
    ),
    (
        "field cost money\nfield pages size\nfield price money\nkind ware : ; price\nkind book : ware ; pages\nkind"
        " pen : ware ; cost",
        "if (1000 == a.price and not 1000 == b.price) then less else if (1000 == b.price and not 1000 == a.price) "
        "then greater else if a.cost < b.cost then less else if b.cost < a.cost then greater else alike",
    ),
    (
        "field cost money\nfield pages size\nfield price money\nkind ware : ; price\nkind book : ware ; pages\nkind"
        " pen : ware ; cost",
        "if (0 == a.price and not 0 == b.price) then less else if (0 == b.price and not 0 == a.price) then greater "
        "else if a.cost < b.cost then less else if b.cost < a.cost then greater else alike",
    ),
    (
        "field cost money\nfield pages size\nfield price money\nkind ware : ; price\nkind book : ware ; pages\nkind"
        " pen : ware ; cost",
        "if ((and 0 == a.price) and not (and 0 == b.price)) then less else if ((and 0 == b.price) and not (and 0 =="
        " a.price)) then greater else if a.cost < b.cost then less else if b.cost < a.cost then greater else alike",
    ),
    (
        "field cost money\nfield pages size\nfield price money\nkind ware : ; price\nkind book : ware ; pages\nkind"
        " pen : ware ; cost",
        "if (not b.price == 1000 and not not a.price == 1000) then less else if (not a.price == 1000 and not not "
        "b.price == 1000) then greater else if a.cost < b.cost then less else if b.cost < a.cost then greater else "
        "alike",
    ),
    (
        "field x m\nfield y m\nfield z m\nkind k : ; x y z",
        "if (b.y < a.y and a.z < b.z and a.y < a.x and b.x < b.y and a.x == a.z) then greater else if (a.y < b.y "
        "and b.z < a.z and b.y < b.x and a.x < a.y and b.x == b.z) then less else if (a.y == a.z and b.y < b.x and "
        "a.z < b.y) then less else if (b.y == b.z and a.y < a.x and b.z < a.y) then greater else if (a.y < a.z and "
        "not b.y < b.z) then less else if (b.y < b.z and not a.y < a.z) then greater else if a.x < b.x then less "
        "else if b.x < a.x then greater else if b.z < a.z then less else if a.z < b.z then greater else if a.y < "
        "b.y then less else if b.y < a.y then greater else alike",
    ),
)
