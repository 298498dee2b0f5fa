"""Rooms that several tests ask about."""

from justthepart.nettexts import read_net
from justthepart.roomtexts import read_room
from samples import EXAMPLE

AB0, AB1, G = ("ab", 0), ("ab", 1), ("g", 0)
NOTHING = ((), (), (), (), (), 0)
NET_WORDS = "bus line source guard error breaker ticks over reach difference behind forward delay opens".split()
ROOM_WORDS = "channel let send order shut gone and or not timer latch got open".split()

# A room of all kinds of lets.
FULL = ((("c1", 1, 6), ("c2", 2, 2)),
        (("l1", ("and", ("d1", "d2", "d1"))), ("l2", ("or", ("l1",))), ("l3", ("not", "l2")), ("l4", ("timer", "l3", 20, 0)),
         ("l5", ("latch", "l4", "l4")), ("l6", ("got", "c2")), ("l7", ("open", G)), ("l8", ("timer", "z2", 0, 20)),
         ("l9", ("latch", "l6", "e1"))),
        (("c1", "l9"), ("c2", "d1")),
        ((AB0, "d2"), (AB0, "l1"), (AB1, "l1"), (G, "l8")),
        ((AB0, "l1"), (G, "l9")), 10)


def room_with(lets=(), channels=(), sends=(), orders=(), shuts=(), gone=0):
    """Return a room of some parts."""
    return (channels, tuple(lets), sends, orders, shuts, gone)


# A line between two sources: what is ordered at its far end is told there over a channel.
PAIR = read_net("""
bus a
bus b
line ab a b 10
source g a 3
source h b 4
error 1/10
breaker 1 2
ticks 6
guard d1 difference ab 1/1000 delay 0 opens ab.0
guard d2 difference ab 1/1000 delay 0 opens ab.0
guard e1 difference a 1/1000 delay 0 opens g
guard e2 difference a 1/1000 delay 0 opens g
guard k1 difference b 1/1000 delay 0 opens h
guard k2 difference b 1/1000 delay 0 opens h
guard f0 behind ab.0 delay 0 opens g
guard f1 behind ab.1 delay 0 opens h
""")
RELAYED = read_room(PAIR, """
channel ca 1 3        # from a to b
channel cb 1 3
send ca d1
send cb d2
let ga got cb
let gb got ca
order ab.0 d1
order ab.0 ga
order ab.1 d2
order ab.1 gb
order ab.0 e1
order ab.0 e2
order g e1
order g e2
order ab.1 k1
order ab.1 k2
order h k1
order h k2
let w0 timer f0 2 0   # waits for what a breaker may take
let w1 timer f1 2 0
order ab.1 w0
order g w0
order ab.0 w1
order h w1
""")

# The document's example: what was opened is shut again some ticks later, and stays open if the fault is still there.
SLOW = (*EXAMPLE[:4], ((1, 10), 1, 2, 30))
AGAIN = read_room(SLOW, """
let t0 timer d1 0 0
let t1 timer d2 0 0
let t2 timer f0 2 0
let t3 timer e1 0 0
let t4 timer e2 0 0
let t5 timer z1 0 0
let t6 timer z2 4 0
order ab.0 t0
order ab.1 t0
order ab.0 t1
order ab.1 t1
order ab.1 t2
order g t2
order ab.0 t3
order g t3
order ab.0 t4
order g t4
order ab.1 t5
order ab.0 t6
let o0 open ab.0
let o1 open ab.1
let o2 open g
let any or o0 o1 o2
let none not any
let never and any none
let trip or t0 t1 t2 t3 t4 t5 t6
let dead timer any 8 0
let was latch dead never
let twice and trip was
let lock latch twice never
let may not lock
let again and dead may
shut ab.0 again
shut ab.1 again
shut g again
gone 6
""")
